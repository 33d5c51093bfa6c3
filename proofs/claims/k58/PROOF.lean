import PyProof.Rows.All
import Wide.All
import OpenK.AllK
import Wide.FinOn
import HandS.ForMost
import HandS.ForExc
import HandS.IsInst
import HandS.Walk
import HandS.More
import HandS.Dict
import HandS.Style
import HandS.SortInts
import HandS.DictComp
import HandS.Zip
import HandS.Deep
import HandS.TryOnly
import HandS.TupAny
import HandS.TupMul
import KE.GoesMore
import PySem.Challenge.RW_loadanywhere_k58_coded_words
import HandS.SetFor
import HandS.Strs
import KE.SortKeyHeap
import KE.SortData
import HandS.SortKw
import HandS.ExcInit
import HandS.ExcField
import HandS.Defaults
import HandS.Lambda
import HandS.Conv
import HandS.EndTab
import Wide.Once
import KE.KStateDown
import Lean
import HandS.Ends
import HandS.Head0
import HandS.Head1
import HandS.Head2
import HandS.HeadHook1
import HandS.HeadHook2
import HandS.HeadHook3
import HandS.HeadHook4
import HandS.HeadWalk
set_option Elab.async false
set_option linter.all false
set_option maxRecDepth 100000
set_option maxHeartbeats 0
namespace DR
open PySem PySem.Spec PyProof.Rows L2
/-! ### the text by places -/
def topS (i : Nat) : Stmt := PySem.Challenge.pw_loadanywhere_k58_coded_words.main.body.getD i (.Pass ⟨0, 0, 0, 0⟩)
/-- a def of the text that stands at a global name and keeps its promise -/
structure Has (P : Program) (w : World) (K : PySem.W.Frag) (mg : Str → Option Value) (base : Heap) (CX : CXT) (k : Nat) (x : Str) (ps : List Str) (sp : Sp) : Prop where
  ex : ∃ (f : Addr) (fd : FuncData), mg x = some (.ref f) ∧ PySem.W.keepIn K (.ref f) = true ∧ Binds K fd ps [] ∧ FnOk P w K mg base CX k f fd ps sp
theorem Has.mono {P : Program} {w : World} {K : PySem.W.Frag} {mg : Str → Option Value} {base : Heap} {CX : CXT} {j k : Nat} {x : Str} {ps : List Str} {sp : Sp} (h : Has P w K mg base CX j x ps sp) (l : j ≤ k) : Has P w K mg base CX k x ps sp := by
  obtain ⟨f, fd, a, b, c, d⟩ := h.ex
  exact ⟨f, fd, a, b, c, d.mono l⟩
section
variable {X : Cx} {CX : CXT} {k : Nat} {ps : List Str} {sp : Sp} {E : XK} {x : Str} {p pos : Pos} {e : Expr} {es : List Expr} {t : TA}
theorem pe_callH (F : Has X.prog X.w X.K X.mg X.base CX k x ps sp) (hr : Room k X.A) (hg : Gl X x) (hx : Passes CX X E)
    (ha : PA X (e :: es) t) (hdb : (x == ("__debug__" : Str)) = false := by decide) (he : starEach (e :: es) X.env = (false, eval e X.env) :: starEach es X.env := by rfl) (hpl : (backTo pos (starEach es X.env)).any (·.1) = false := by rfl) :
    PE X (.Call (.Name x p) (e :: es) [] pos) (tCall sp [] E t) := by
  obtain ⟨f, fd, a, b, c, d⟩ := F.ex
  exact pe_call d hr hg a b c .nil hx ha hdb he hpl
end
/-- the names of built-ins that the law and the program ask -/
structure Bi (mg : Str → Option Value) : Prop where
  len : mg "len" = none
  int : mg "int" = none
  str : mg "str" = none
  bool : mg "bool" = none
  list : mg "list" = none
  tuple : mg "tuple" = none
  isinstance : mg "isinstance" = none
  all : mg "all" = none
  sorted : mg "sorted" = none
  range : mg "range" = none
  enumerate : mg "enumerate" = none
  zip : mg "zip" = none
  dict : mg "dict" = none
  min : mg "min" = none
  set : mg "set" = none

/-! ### things: data, and the empty dict -/
theorem rd_same {H H' : Hp} {a : Addr} {u : HO} (e : Same H H') (h : Rd H a u) : Rd H' a u := by
  rcases h with h | ⟨o, h⟩
  · exact .inl (e _ _ h)
  · exact .inr ⟨o, e _ _ h⟩
theorem sqL_same {K : PySem.W.Frag} {H H' : Hp} {a : Addr} {xs : List V} (e : Same H H') (h : SqL K H a xs) : SqL K H' a xs := e.seq h
theorem sqT_same {K : PySem.W.Frag} {H H' : Hp} {a : Addr} {xs : List V} (e : Same H H') (h : SqT K H a xs) : SqT K H' a xs := by
  rcases h with h | h
  · exact .inl (rd_same e h)
  · exact .inr h
mutual
theorem dp_same {K : PySem.W.Frag} {H H' : Hp} (e : Same H H') : ∀ {v : V} {d : PyData}, Dp K H v d → Dp K H' v d
  | _, _, .non => .non
  | _, _, .bl b => .bl b
  | _, _, .int i => .int i
  | _, _, .str x => .str x
  | _, _, .lst s a => .lst (sqL_same e s) (dps_same e a)
  | _, _, .tup s a => .tup (sqT_same e s) (dps_same e a)
theorem dps_same {K : PySem.W.Frag} {H H' : Hp} (e : Same H H') : ∀ {vs : List V} {ds : List PyData}, DpAll K H vs ds → DpAll K H' vs ds
  | _, _, .nil => .nil
  | _, _, .cons h t => .cons (dp_same e h) (dps_same e t)
end
theorem same_new {H : Hp} {p : Addr} {o : HO} (h : H p = none) : Same H (upd H p o) := fun b x e => by
  rw [upd_ne (ne_of_none e h)]
  exact e
/-- data, or a dict -/
inductive Th (K : PySem.W.Frag) (H : Hp) : V → PyData → Prop
  | dat {v : V} {d : PyData} : Dp K H v d → Th K H v d
  | dct {a : Addr} {kvs : List (Key × V)} : H a = some (.dK kvs) → Th K H (.ref a) (.dict [])
theorem th_same {K : PySem.W.Frag} {H H' : Hp} (e : Same H H') {v : V} {d : PyData} : Th K H v d → Th K H' v d
  | .dat h => .dat (dp_same e h)
  | .dct h => .dct (e _ _ h)
def tyN : PyData → String
  | .none => "NoneType"
  | .bool _ => "bool"
  | .int _ => "int"
  | .str _ => "str"
  | .list _ => "list"
  | .tuple _ => "tuple"
  | .dict _ => "dict"
theorem ty_list {K : PySem.W.Frag} {H : Hp} {a : Addr} {xs : List V} (h : SqL K H a xs) : TyX K H (.ref a) (.type "list") := by
  rcases h with (h | ⟨o, h⟩) | ⟨o, its, n, h, c, _⟩
  · exact .base (.lst h)
  · exact .base (.frz h)
  · exact .kList h c
theorem ty_tup {K : PySem.W.Frag} {H : Hp} {a : Addr} {xs : List V} (h : SqT K H a xs) : TyX K H (.ref a) (.type "tuple") := by
  rcases h with (h | ⟨o, h⟩) | ⟨o, its, n, h, c, _⟩
  · exact .base (.tup h)
  · exact .fTuple h
  · exact .kTuple h c
theorem th_ty {K : PySem.W.Frag} {H : Hp} {v : V} {d : PyData} (h : Th K H v d) : TyX K H v (.type (tyN d)) := by
  cases h with
  | dct h => exact .base (.dK h)
  | dat h =>
    cases h with
    | non => exact .base .non
    | bl b => exact .base (.bl b)
    | int i => exact .base (.int i)
    | str x => exact .base (.str x)
    | lst s _ => exact ty_list s
    | tup s _ => exact ty_tup s
def isI : PyData → Bool
  | .int _ => true
  | _ => false
def isIB : PyData → Bool
  | .int _ => true
  | .bool _ => true
  | _ => false
def isB : PyData → Bool
  | .bool _ => true
  | _ => false
def isS : PyData → Bool
  | .str _ => true
  | _ => false
def isR : PyData → Bool
  | .list _ => true
  | .tuple _ => true
  | _ => false
def tyNs : List String := ["NoneType", "bool", "int", "str", "list", "tuple", "dict"]
theorem tyN_mem (d : PyData) : tyN d ∈ tyNs := by cases d <;> simp [tyN, tyNs]
theorem kb_int : ∀ n ∈ tyNs, kitB n "int" = some (n == "int" || n == "bool") := by decide +kernel
theorem kb_bool : ∀ n ∈ tyNs, kitB n "bool" = some (n == "bool") := by decide +kernel
theorem kb_str : ∀ n ∈ tyNs, kitB n "str" = some (n == "str") := by decide +kernel
theorem kb_list : ∀ n ∈ tyNs, kitB n "list" = some (n == "list") := by decide +kernel
theorem kb_tup : ∀ n ∈ tyNs, kitB n "tuple" = some (n == "tuple") := by decide +kernel
theorem kit_int {K : PySem.W.Frag} (d : PyData) : PySem.W.kitOne K (.type (tyN d)) (.type "int") = some (isIB d) := by
  have h := kb_int _ (tyN_mem d)
  have e : (tyN d == "int" || tyN d == "bool") = isIB d := by cases d <;> rfl
  rw [e] at h
  exact kit_ty h
theorem kit_bool {K : PySem.W.Frag} (d : PyData) : PySem.W.kitOne K (.type (tyN d)) (.type "bool") = some (isB d) := by
  have h := kb_bool _ (tyN_mem d)
  have e : (tyN d == "bool") = isB d := by cases d <;> rfl
  rw [e] at h
  exact kit_ty h
theorem kit_str {K : PySem.W.Frag} (d : PyData) : PySem.W.kitOne K (.type (tyN d)) (.type "str") = some (isS d) := by
  have h := kb_str _ (tyN_mem d)
  have e : (tyN d == "str") = isS d := by cases d <;> rfl
  rw [e] at h
  exact kit_ty h
theorem kit_row {K : PySem.W.Frag} (d : PyData) : PySem.W.kitAny K (.type (tyN d)) [.type "list", .type "tuple"] = some (isR d) := by
  have h1 := kb_list _ (tyN_mem d)
  have h2 := kb_tup _ (tyN_mem d)
  refine kitAny_cons (kit_ty h1) (fun z => kitAny_cons (kit_ty h2) (fun z2 => ?_) fun z2 => ?_) fun z => ?_
  all_goals
    revert z
    try revert z2
    cases d <;> simp [tyN, isR, kitAny_nil]
/-- isinstance of a thing, one class -/
theorem isi1 {K : PySem.W.Frag} {H : Hp} {v : V} {d : PyData} {n : String} {b : Bool} {Q : VK} (h : Th K H v d) (k : PySem.W.kitOne K (.type (tyN d)) (.type n) = some b) (q : Q (.bl b) H) : rIsi K [v, .ty n] H Q :=
  ⟨v, .ty n, _, _, b, rfl, .ty n, th_ty h, k, q⟩
def spIsInt (K : PySem.W.Frag) : Sp := fun vs H Q _ => ∃ v d, vs = [v] ∧ Th K H v d ∧ Q (.bl (isI d)) H
def spIsRow (K : PySem.W.Frag) : Sp := fun vs H Q _ => ∃ v d, vs = [v] ∧ Th K H v d ∧ ∀ H', Same H H' → Q (.bl (isR d)) H'
/-- the items of a list or tuple -/
def items : PyData → Option (List PyData)
  | .list xs => some xs
  | .tuple xs => some xs
  | _ => none
def isRof (d : PyData) (n : Int) : Bool := match items d with
  | some xs => decide ((xs.length : Int) = n)
  | none => false
def spIsRowOf (K : PySem.W.Frag) : Sp := fun vs H Q _ => ∃ v d n, vs = [v, .int n] ∧ Th K H v d ∧ ∀ H', Same H H' → Q (.bl (isRof d n)) H'
theorem dps_len {K : PySem.W.Frag} {H : Hp} : ∀ {vs : List V} {ds : List PyData}, DpAll K H vs ds → vs.length = ds.length
  | _, _, .nil => rfl
  | _, _, .cons _ t => congrArg (· + 1) (dps_len t)
/-- a thing that is a row: its place and items -/
theorem th_row {K : PySem.W.Frag} {H : Hp} {v : V} {d : PyData} (h : Th K H v d) {ds : List PyData} (e : items d = some ds) : ∃ a xs, v = .ref a ∧ (SqL K H a xs ∨ SqT K H a xs) ∧ DpAll K H xs ds := by
  cases h with
  | dct h => cases e
  | dat h =>
    cases h with
    | non => cases e
    | bl b => cases e
    | int i => cases e
    | str x => cases e
    | lst s t =>
      cases e
      exact ⟨_, _, rfl, .inl s, t⟩
    | tup s t =>
      cases e
      exact ⟨_, _, rfl, .inr s, t⟩
theorem isR_items (d : PyData) : isR d = (items d).isSome := by cases d <;> rfl
abbrev sIsInt : Stmt := topS 13
abbrev sIsRow : Stmt := topS 14
abbrev sIsRowOf : Stmt := topS 15
abbrev sIsName : Stmt := topS 16
theorem scIsInt : FnScope ["thing"] ["thing"] (defScope sIsInt) := ⟨rfl, rfl, rfl, by decide +kernel, rfl, by decide +kernel, by decide +kernel⟩
theorem scIsRow : FnScope ["thing"] ["thing"] (defScope sIsRow) := ⟨rfl, rfl, rfl, by decide +kernel, rfl, by decide +kernel, by decide +kernel⟩
theorem scIsRowOf : FnScope ["thing", "many"] ["thing", "many"] (defScope sIsRowOf) := ⟨rfl, rfl, rfl, by decide +kernel, rfl, by decide +kernel, by decide +kernel⟩
theorem scIsName : FnScope ["thing", "letter"] ["thing"] (defScope sIsName) := ⟨rfl, rfl, rfl, by decide +kernel, rfl, by decide +kernel, by decide +kernel⟩
def lettersS : Str := "abcdefghijklmnopqrstuvwxyz"
def isNmS (s : Str) : Bool := decide (1 ≤ (s.length : Int)) && (decide ((s.length : Int) ≤ 8) && s.cps.toList.all fun c => decide (c ∈ lettersS.cps.toList))
def isNm : PyData → Bool
  | .str s => isNmS s
  | _ => false
/-- a thing whose text, if it is one, is not too long -/
def shortS : PyData → Prop
  | .str s => s.length ≤ 1000
  | _ => True
def spIsName (K : PySem.W.Frag) : Sp := fun vs H Q _ => ∃ v d, vs = [v] ∧ Th K H v d ∧ shortS d ∧ ∀ H', Same H H' → Q (.bl (isNm d)) H'
section
variable {P : Program} {w : World} {K : PySem.W.Frag} {mg : Str → Option Value} {base : Heap}
theorem ok_isInt {f : Addr} {fd : FuncData} (F : Fun K "is_integer" "is_integer" sIsInt f fd) (T : Bi mg) : FnOk P w K mg base CX0 1 f fd ["thing"] (spIsInt K) := by
  refine F.ok scIsInt (fun vs H Q E h => ?_) (fun cdv A outer s H vs Q E hr h => ?_)
  · obtain ⟨v, d, rfl, _⟩ := h
    rfl
  · obtain ⟨v, d, rfl, th, q⟩ := h
    refine ⟨_, (pss_one (ps_ret (pe_and (pe_callB call_isi (by rfl) T.isinstance (by decide +kernel) (pa_cons (pv 0) (pa_cons (pe_bltn (v := .ty "int") (by rfl) T.int (by decide +kernel) rfl) pa_nil))) (pe_one (pe_not (pe_callB call_isi (by rfl) T.isinstance (by decide +kernel) (pa_cons (pv 0) (pa_cons (pe_bltn (v := .ty "bool") (by rfl) T.bool (by decide +kernel) rfl) pa_nil)))))))), ?_⟩
    refine ⟨_, rfl, v, _, _, _, _, rfl, .ty "int", th_ty th, kit_int d, _, rfl, ?_⟩
    cases e : isIB d with
    | false =>
      refine iteF ?_
      have z : isI d = false := by cases d <;> first | rfl | cases e
      rw [z] at q
      exact q
    | true =>
      refine iteT ⟨_, rfl, v, _, _, _, _, rfl, .ty "bool", th_ty th, kit_bool d, _, rfl, ?_⟩
      have z : isI d = !isB d := by cases d <;> first | rfl | cases e
      rw [z] at q
      exact q
theorem ok_isRow {f : Addr} {fd : FuncData} (F : Fun K "is_row" "is_row" sIsRow f fd) (T : Bi mg) : FnOk P w K mg base CX0 1 f fd ["thing"] (spIsRow K) := by
  refine F.ok scIsRow (fun vs H Q E h => ?_) (fun cdv A outer s H vs Q E hr h => ?_)
  · obtain ⟨v, d, rfl, _⟩ := h
    rfl
  · obtain ⟨v, d, rfl, th, q⟩ := h
    refine ⟨_, (pss_one (ps_ret (pe_callB call_isiT (by rfl) T.isinstance (by decide +kernel) (pa_cons (pv 0) (pa_cons (pe_tup (pa_cons (pe_bltn (v := .ty "list") (by rfl) T.list (by decide +kernel) rfl) (pa_cons (pe_bltn (v := .ty "tuple") (by rfl) T.tuple (by decide +kernel) rfl) pa_nil))) pa_nil))))), ?_⟩
    refine ⟨_, rfl, (by show 2 ≤ sizeLine; decide), fun p hp => ?_⟩
    refine ⟨v, p, _, _, _, _, rfl, upd_same, .cons (.ty "list") (.cons (.ty "tuple") .nil), th_ty (th_same (same_new hp) th), kit_row d, q _ (same_new hp)⟩
theorem ok_isRowOf {f : Addr} {fd : FuncData} (F : Fun K "is_row_of" "is_row_of" sIsRowOf f fd) (T : Bi mg) (G : Has P w K mg base CX0 1 "is_row" ["thing"] (spIsRow K)) : FnOk P w K mg base CX0 2 f fd ["thing", "many"] (spIsRowOf K) := by
  refine F.ok scIsRowOf (fun vs H Q E h => ?_) (fun cdv A outer s H vs Q E hr h => ?_)
  · obtain ⟨v, d, n, rfl, _⟩ := h
    rfl
  · obtain ⟨v, d, n, rfl, th, q⟩ := h
    refine ⟨_, (pss_one (ps_ret (pe_and (pe_callH G hr (by rfl) pass0 (pa_cons (pv 0) pa_nil)) (pe_one (pe_cmpR op_eq (pe_callB call_len_seq (by rfl) T.len (by decide +kernel) (pa_cons (pv 0) pa_nil)) (pv 1) (nomark _)))))), ?_⟩
    refine ⟨_, rfl, v, d, rfl, th, fun H' sm => ⟨_, rfl, ?_⟩⟩
    rw [isR_items]
    have q' := q H' sm
    unfold isRof at q'
    cases e : items d with
    | none =>
      rw [e] at q'
      exact iteF q'
    | some ds =>
      rw [e] at q'
      obtain ⟨a, xs, rfl, hs, ha⟩ := th_row (th_same sm th) e
      refine iteT ⟨_, rfl, a, xs, rfl, hs, _, rfl, rfl, ?_⟩
      rw [dps_len ha]
      have z : decide (V.int (ds.length : Int) = V.int n) = decide ((ds.length : Int) = n) := by
        by_cases c : (ds.length : Int) = n
        · rw [c]; simp
        · rw [decide_eq_false c]
          exact decide_eq_false fun z => c (V.int.inj z)
      rw [z]
      exact q'
theorem yes_go {σ : L2.St} {H : Hp} {F : Bool → Hp → Prop} (h : F true H) : tYes σ H F := h
theorem ok_isName {f : Addr} {fd : FuncData} {t : Tok} (F : Fun K "is_name" "is_name" sIsName f fd) (T : Bi mg) (gL : mg "LETTERS" = some (.str lettersS t)) : FnOk P w K mg base CX0 1 f fd ["thing"] (spIsName K) := by
  refine F.ok scIsName (fun vs H Q E h => ?_) (fun cdv A outer s H vs Q E hr h => ?_)
  · obtain ⟨v, d, rfl, _⟩ := h
    rfl
  · obtain ⟨v, d, rfl, th, sh, q⟩ := h
    refine ⟨_, (pss_cons (ps_if (PW.pt (pw_or (pt_not (pt_val (pe_callB call_isi (by rfl) T.isinstance (by decide +kernel) (pa_cons (pv 0) (pa_cons (pe_bltn (v := .ty "str") (by rfl) T.str (by decide +kernel) rfl) pa_nil))))) (pw_or1 (pt_not (pt_chain op_le op_le pe_int (pe_callB call_len_str (by rfl) T.len (by decide +kernel) (pa_cons (pv 0) pa_nil)) pe_int))))) (pss_one (ps_ret pe_bl)) pss_nil)
      (pss_one (ps_ret (pe_callB (cr_all rfl) (by rfl) T.all (by decide +kernel) (pa_cons (pe_lc (own := [("letter", 1)]) (g := gName 1) (tt := tYes) rfl scIsName.nd (pi_str (pv 0)) (blkOk_by (N := ["thing", "letter"]) (sc := defScope sIsName) (by decide +kernel)) (fun _ _ _ _ _ => pg_name (i := 1) scIsName.nd rfl (.inl rfl)) (fun _ _ _ _ _ => pts_nil) (fun _ _ _ _ _ => (pe_cmpR op_in_sign (pv 1) (pe_glob (v := .str lettersS) rfl gL ⟨_, rfl⟩) (by rfl)))) pa_nil))))), ?_⟩
    refine ⟨_, rfl, v, _, _, _, _, rfl, .ty "str", th_ty th, kit_str d, _, rfl, ?_⟩
    cases d with
    | str s =>
      obtain rfl : v = .str s := by
        cases th with
        | dat h => cases h; rfl
      have hl : s.length ≤ sizeLine := Nat.le_trans sh (by decide)
      refine iteF ⟨_, rfl, s, rfl, hl, _, _, rfl, rfl, _, rfl, ?_⟩
      have q0 : Q (.bl (isNmS s)) H := q H (Same.refl H)
      unfold isNmS at q0
      cases c1 : decide (1 ≤ (s.length : Int)) with
      | false =>
        rw [c1] at q0
        exact iteF ⟨_, rfl, iteT q0⟩
      | true =>
        refine iteT ⟨_, _, rfl, rfl, _, rfl, ?_⟩
        cases c2 : decide ((s.length : Int) ≤ 8) with
        | false =>
          rw [c1, c2] at q0
          exact iteT q0
        | true =>
          refine iteF ⟨_, rfl, s, rfl, fun D hD => ?_⟩
          have e1 : (isNmS s) = s.cps.toList.all fun c => decide (c ∈ lettersS.cps.toList) := by
            unfold isNmS
            rw [c1, c2]
            rfl
          refine lc_it (walk_str (z := s)) (fun i H' => (∀ b o, b ≠ D → H b = some o → H' b = some o) ∧ H' D = some (.lst (((s.cps.toList.take i).map fun c => decide (c ∈ lettersS.cps.toList)).map V.bl))) ⟨fun b o hb e => by rw [upd_ne hb]; exact e, upd_same⟩ (fun _ _ _ _ => trivial) ?_ ?_
          · rintro i x H1 H2 hi ⟨kp, hd⟩ ⟨rfl, c, hc, rfl⟩
            have hc' : s.cps.toList[i]? = some c := by simpa using hc
            refine ⟨rfl, ?_⟩
            refine yes_go (iteT ?_)
            refine ⟨_, rfl, c, lettersS, rfl, rfl, _, hd, ?_, fun b o hb e => ?_, ?_⟩
            · rw [List.length_map, List.length_map, List.length_take]
              refine Nat.lt_of_le_of_lt (Nat.min_le_right _ _) (Nat.lt_of_le_of_lt (m := 1000) ?_ (by decide))
              have e2 : s.cps.toList.length = s.length := by simp [Str.length]
              have sh' : s.length ≤ 1000 := sh
              omega
            · rw [upd_ne hb]
              exact kp b o hb e
            · rw [upd_same, List.take_add_one, hc']
              simp
          · rintro H1 ⟨kp, hd⟩
            refine ⟨D, _, rfl, SqL.of hd, ?_⟩
            have e2 : s.cps.toList.take s.cps.size = s.cps.toList := by
              rw [← Array.length_toList]
              exact List.take_length
            have e3 : ((s.cps.toList.take s.cps.size).map fun c => decide (c ∈ lettersS.cps.toList)).all id = isNm (.str s) := by
              rw [e2, List.all_map]
              exact e1.symm
            rw [e3]
            exact q H1 fun b o e => kp b o (ne_of_none e hD) e
    | none => exact iteT (q H (Same.refl H))
    | bool b => exact iteT (q H (Same.refl H))
    | int i => exact iteT (q H (Same.refl H))
    | list xs => exact iteT (q H (Same.refl H))
    | tuple xs => exact iteT (q H (Same.refl H))
    | dict xs => exact iteT (q H (Same.refl H))
end

/-! ### enumerate over a tuple -/
open AutoSeq1 (wpAny_loadPart') in
theorem meets_enumT (tt : Addr) (its : Array Value) (ot : Obj) (co : ot.cls = .type "tuple") (n : Nat) (dd : ot.data = .seq its n) :
    Meets (Builtin.«enumerate.__new__» ⟨[.type "enumerate", .ref tt], []⟩) (fun _ R t => t.heap.get? tt = some ot ∧
      R (.ok (.ret (.ref (t.heap.push { cls := .type "tuple_iterator", data := .fields #[.ref tt, .int 0 0] }).objs.size)))
        { t with heap := (t.heap.push { cls := .type "tuple_iterator", data := .fields #[.ref tt, .int 0 0] }).push { cls := .type "enumerate", data := .fields #[.none, .bool false, .ref t.heap.objs.size, rawInt 0, .none, .none] } }) :=
  .of_wp fun prog w A R t goal => by
    obtain ⟨hp, gg, dp, tk, os⟩ := t
    obtain ⟨get, goal⟩ := goal
    obtain ⟨c0, d0, dt0, s0⟩ := ot
    dsimp only at co dd
    subst co
    subst dd
    have below := sub_enumerate
    have isT : Heap.IsTuple (Shared.heap ⟨hp, gg, dp, tk, os⟩) tt its := ⟨_, get, rfl, n, rfl⟩
    wp_walk using wpAny_loadPart' get
    refine wpAny_stack_any fun st => wpAny_pure ?_
    split
    · rename_i c _ _ _ _ _
      cases (c == Value.type "enumerate") <;>
      · wp_walk using wpAny_loadPart' get, wpAny_pyIter_tuple isT
        exact ⟨_, rfl, goal⟩
    · wp_walk using wpAny_loadPart' get, wpAny_pyIter_tuple isT
      exact ⟨_, rfl, goal⟩
theorem call_enumT {prog : Program} {w : World} {A : Around} {E : Value → Shared → Prop} {t : Shared} {tt : Addr} {its : Array Value} {Q : Value → Shared → Prop} (isT : t.heap.IsTuple tt its)
    (go : ∀ g, IsEnum g (t.heap.objs.size + 1) t.heap.objs.size 0 .none → g.IsTupleIter t.heap.objs.size tt 0 → (∀ b o, t.heap.get? b = some o → g.get? b = some o) → Q (.ref (t.heap.objs.size + 1)) { t with heap := g }) :
    wpAny (model prog w) A (call (.type "enumerate") [.ref tt]) Q E t := by
  obtain ⟨ot, get, co, n, dd⟩ := isT
  refine callType_new F.called_enumerate (by decide) (F.typeCall_enumerate_1 _) (F.newCall_enumerate_1 _) (fun obj => F.args_object_init_2 obj _) F.entry_enumerate_new (meets_enumT tt its ot co n dd) ⟨get, ?_⟩
  let oi : Obj := { cls := .type "tuple_iterator", data := .fields #[.ref tt, .int 0 0] }
  have sz : (t.heap.push oi).objs.size = t.heap.objs.size + 1 := Heap.size_push ..
  have eq2 : (t.heap.push { cls := .type "tuple_iterator", data := .fields #[.ref tt, .int 0 0] }).objs.size = t.heap.objs.size + 1 := sz
  show _ ∧ _
  rw [eq2]
  have top : IsEnum ((t.heap.push oi).push { cls := .type "enumerate", data := .fields #[.none, .bool false, .ref t.heap.objs.size, rawInt 0, .none, .none] }) (t.heap.objs.size + 1) t.heap.objs.size 0 .none := by
    have z := Heap.get?_push_size (t.heap.push oi) (o := { cls := .type "enumerate", data := .fields #[.none, .bool false, .ref t.heap.objs.size, rawInt 0, .none, .none] }) rfl
    rw [sz] at z
    exact z
  refine ⟨⟨_, top, rfl⟩, go _ top ⟨oi, Heap.get?_push_of_some _ (Heap.get?_push_size _ rfl), rfl, rfl⟩ fun b o e => Heap.get?_push_of_some _ (Heap.get?_push_of_some _ e)⟩
/-- the tuple at a, each item in a new pair -/
def Itu (K : PySem.W.Frag) (a : Addr) : It where
  go := fun i H => ∃ (xs : List V) (x : V), SqT K H a xs ∧ xs[i]? = some x
  yld := fun i H v H' => ∃ T x, v = .ref T ∧ H T = none ∧ H' = upd H T (.tup [.int (i : Nat), x]) ∧ ∀ xs, SqT K H a xs → xs[i]? = some x
  stop := fun i H => ∃ xs : List V, SqT K H a xs ∧ xs.length ≤ i
theorem turn_enumT {P : Program} {w : World} {K : PySem.W.Frag} {elts : List Expr} {kk : Nat} {tpos : Pos} (a e it : Addr) (ae : a ≠ e) (ai : a ≠ it) :
    Turn P w K (.Tuple elts kk tpos) (Itu K a) [e, it] e (fun i h => (∃ old, IsEnum h e it ((i : Nat) : Int) old) ∧ h.IsTupleIter it a i ∧ e ≠ it) where
  mem := List.mem_cons_self ..
  obj := by
    intro i h st b hb
    obtain ⟨⟨old, he⟩, ⟨o, ho, hc, hd⟩, _⟩ := st
    rcases List.mem_cons.mp hb with rfl | hb
    · exact ⟨_, he, fun v q => nomatch q⟩
    · obtain rfl := List.mem_singleton.mp hb
      exact ⟨o, ho, fun v q => by rw [hd] at q; cases q⟩
  keep := by
    intro i h h' st k
    obtain ⟨⟨old, he⟩, hi, hne⟩ := st
    exact ⟨⟨old, k e (by simp) _ he⟩, hi.at fun o q => k it (by simp) o q, hne⟩
  item := by
    intro X hP hw hK hc i pins s σ H E I hf st hg
    subst hP hw hK
    obtain ⟨⟨old, he⟩, hit, hne⟩ := st
    obtain ⟨xs, x, hq, hx⟩ := hg
    obtain ⟨its, rv, p, hz⟩ := I.tuple hq
    obtain ⟨u, hu, ru⟩ := rv.get hx
    have elt : e < s.heap.objs.size := Heap.lt_size he
    have ilt : it < s.heap.objs.size := by
      obtain ⟨_, q, _⟩ := hit
      exact Heap.lt_size q
    have DD := Draws.tuple (prog := X.prog) (w := X.w) (A := X.A.in1) (I.ok.hd hc) it a ai its.toArray
    have hlen : i < its.toArray.size := by
      have : its[i]? = some u := hu
      have := (List.getElem?_eq_some_iff.mp this).1
      simpa using this
    have ef : e ∉ ([it, a] : List Addr) := by simp [hne, ae.symm]
    refine wpAny_pyNext_enum_itemD DD he ⟨hit, (show s.heap.IsTuple a its.toArray from p)⟩ hlen hne ef fun y h' tk hy ho hs' hT hsz hk => ?_
    obtain ⟨hit', _⟩ := hs'
    obtain rfl : y = u := by
      have q : its.toArray[i]? = some y := hy
      rw [List.getElem?_toArray, hu] at q
      exact (Option.some.inj q).symm
    refine ⟨_, rfl, wpAny_letOwnedTupleGo_enum (s := { s with heap := h', toks := tk + 1 }) ho fun h'' he' sb => ?_⟩
    have hT2 : h''.get? s.heap.objs.size = some { cls := .type "tuple", data := .seq #[.int i tk, y] } := (sb.2 _ (Nat.ne_of_gt elt)).trans hT
    have new : ObjOk X.prog X.w (upd H s.heap.objs.size (.tup [.int (i : Nat), x])) h'' s.heap.objs.size (.tup [.int (i : Nat), x]) :=
      ⟨by show 2 ≤ sizeLine; decide, [.int i tk, y], .cons ⟨_, rfl⟩ (.cons ru .nil), ⟨_, hT2, rfl, _, rfl⟩⟩
    have I1 : Inv X pins σ (upd H s.heap.objs.size (.tup [.int (i : Nat), x])) { s with heap := h'', toks := tk + 1 } :=
      I.turnedNew (ch := [e, it]) (fun b ob hb q => (sb.2 b (fun z => hb (by simp [z]))).trans (hk b ob (fun z => hb (by simp [z])) (fun z => hb (by simp [z])) q)) hf (Nat.le_refl _) new
    refine ⟨.ref s.heap.objs.size, _, I1, rfl, ⟨_, x, rfl, I.hok.fresh (Nat.le_refl _), rfl, fun ys hy => by rw [I.tuple_inj hy hq]; exact hx⟩, ⟨⟨y, ?_⟩, hit'.at fun o q => (sb.2 it (Ne.symm hne)).trans q, hne⟩, fun b hb => ?_⟩
    · rw [show ((i + 1 : Nat) : Int) = (i : Int) + 1 by omega]
      exact he'
    · have blt : b < s.heap.objs.size := by
        rcases List.mem_cons.mp hb with rfl | hb
        · exact elt
        · obtain rfl := List.mem_singleton.mp hb
          exact ilt
      rw [upd_ne (Nat.ne_of_lt blt)]
      exact (hf b hb).1
  done := by
    intro X hP hw hK hc i pins s σ H E I hf st hg
    subst hP hw hK
    obtain ⟨⟨old, he⟩, hit, hne⟩ := st
    obtain ⟨xs, hq, hx⟩ := hg
    obtain ⟨its, rv, p, hz⟩ := I.tuple hq
    obtain ⟨f0, f1, f2, f3, f4, f5⟩ := hf it (by simp)
    have hl := rv.length
    have T : s.heap.IsTuple a its.toArray := p
    have hn : wpAny (model X.prog X.w) X.A (pyNext (.ref e)) (fun r s1 => r = none ∧ Inv X pins σ H s1) E s := by
      have hT : s.TypeIs (.ref e) "enumerate" := ⟨_, he, rfl⟩
      unfold pyNext
      refine wpAny_bind (wpAny_attempt (wpAny_callSpecial?_slot (name := Str.ofString "__next__") hT F.slot_enumerate_next (wpAny_call_entry F.slot_enumerate_next hT F.entry_enumerate_next ?_ (F.args_enumerate_next_1 _))))
      show wpAny _ _ (field (.ref e) 2 >>= _) _ _ _
      refine wpAny_bind (wpAny_field he rfl (x := .ref it) rfl ?_)
      refine wpAny_bind (wpAny_nextOf_tuple_end (A := X.A.in1) (I.ok.hd hc) hit T (by simp; omega) fun h' x he' hx' => ?_)
      obtain ⟨o, ho, hcl⟩ := hx'
      refine wpAny_bind (wpAny_isInstance (T := "StopIteration") (b := true) ⟨o, ho, hcl⟩ isSubtype_stop ?_)
      exact wpAny_pure ⟨rfl, I.turned (t' := s.toks) (fun b o hb q => he' b o hb q) f0 f1 f3 f4 f5⟩
    exact hn
  self := fun A i s Q E st h => by
    obtain ⟨⟨_, he⟩, _⟩ := st
    exact wpAny_pyIter_enum he h
def iEnumT (K : PySem.W.Frag) (ta : TA) : TI := fun σ H R => ta σ H fun vs H1 => ∃ a xs, vs = [.ref a] ∧ SqT K H1 a xs ∧ R (Itu K a) H1
theorem pi_enumT {X : Cx} {e : Expr} {ta : TA} {p pos tpos : Pos} {elts : List Expr} {kk : Nat} (hg : Gl X "enumerate") (hm : X.mg "enumerate" = none) (ha : PA X [e] ta) (hs : starEach [e] X.env = [(false, eval e X.env)] := by rfl) :
    PI X (.Tuple elts kk tpos) (.Call (.Name "enumerate" p) [e] [] pos) (iEnumT X.K ta) := by
  constructor
  intro pins s σ H R I h
  refine Call_ (ld_blt I hg hm boot_enumerate (PyProof.Rows.callWith_type1 (thn (ha.run pos pins s σ H _ I h) fun us s1 got => ?_) hs rfl))
  obtain ⟨vs, H1, I1, r1, a, xs, rfl, hq, q⟩ := got
  cases r1 with
  | cons r rr =>
    cases rr
    cases r
    obtain ⟨its, rv, p', hz⟩ := I1.tuple hq
    have alt : a < s1.heap.objs.size := by
      obtain ⟨o, g, _⟩ := id p'
      exact Heap.lt_size g
    refine call_enumT (show s1.heap.IsTuple a its.toArray from p') fun h' he hit hk => wpAny_pyIter_enum he ?_
    refine ⟨s1.heap.objs.size + 1, [s1.heap.objs.size + 1, s1.heap.objs.size], _, _, H1, rfl, I1.kept (t' := s1.toks) hk, turn_enumT a (s1.heap.objs.size + 1) s1.heap.objs.size (Nat.ne_of_lt (Nat.lt_succ_of_lt alt)) (Nat.ne_of_lt alt), ⟨⟨.none, he⟩, hit, Nat.succ_ne_self _⟩, fun b hb => ?_, q⟩
    have hle : s1.heap.objs.size ≤ b := by
      rcases List.mem_cons.mp hb with rfl | hb
      · exact Nat.le_add_right _ _
      · obtain rfl := List.mem_singleton.mp hb
        exact Nat.le_refl _
    exact I1.fpOk hle (I1.hok.fresh hle)
theorem walk_enumT {K : PySem.W.Frag} {a : Addr} {xs : List V} : Walk (Itu K a) xs.length (fun H => SqT K H a xs) (YPair (fun i => some (.int (i : Nat))) (fun i => xs[i]?)) := by
  refine ⟨fun i _ hi q => ⟨xs, xs[i], q, by simp [hi]⟩, fun _ q => ⟨xs, q, Nat.le_refl _⟩, fun i H v H' _ q y => ?_⟩
  obtain ⟨T, x, h1, h2, h3, h4⟩ := y
  exact ⟨T, .int (i : Nat), x, h1, h2, h3, rfl, h4 xs q⟩

/-! ### t[::-1], t a tuple -/
section
variable {prog : Program} {w : World} {A : Around} {E : Value → Shared → Prop} {s : Shared}
theorem fm_map {α β : Type} {f : α → Option β} {g : α → β} : ∀ {l : List α}, (∀ m ∈ l, f m = some (g m)) → l.filterMap f = l.map g
  | [], _ => rfl
  | a :: l, h => by
    rw [List.filterMap_cons, h a (List.mem_cons_self ..), List.map_cons, fm_map fun m hm => h m (List.mem_cons_of_mem _ hm)]
theorem back_pick (its : Array Value) : ((List.range its.size).filterMap fun (m : Nat) => its[((((its.size : Nat) : Int) - 1) + (m : Int) * (-1)).toNat]?) = its.toList.reverse := by
  obtain ⟨l⟩ := its
  simp only [List.size_toArray, List.getElem?_toArray]
  apply List.ext_getElem?
  intro i
  have e : (List.range l.length).filterMap (fun (m : Nat) => l[((((l.length : Nat) : Int) - 1) + (m : Int) * (-1)).toNat]?) = (List.range l.length).map fun m => l.getD (l.length - 1 - m) .none := by
    apply fm_map
    intro m hm
    have hm' : m < l.length := List.mem_range.mp hm
    have e1 : ((((l.length : Nat) : Int) - 1) + (m : Int) * (-1)).toNat = l.length - 1 - m := by omega
    rw [e1]
    have hlt : l.length - 1 - m < l.length := by omega
    rw [List.getElem?_eq_getElem hlt]
    simp [List.getD_eq_getElem?_getD, List.getElem?_eq_getElem hlt]
  show ((List.range l.length).filterMap _)[i]? = (l.reverse)[i]?
  rw [e]
  by_cases hi : i < l.length
  · rw [List.getElem?_map, List.getElem?_range hi, List.getElem?_reverse hi]
    have hlt : l.length - 1 - i < l.length := by omega
    simp [List.getD_eq_getElem?_getD, List.getElem?_eq_getElem hlt]
  · rw [List.getElem?_eq_none (by simp; omega), List.getElem?_eq_none (by simp; omega)]
theorem back_places (n : Nat) : Builtin.Slice.slicePlaces ((n : Int) - 1) (-1) (-1) = n := by
  unfold Builtin.Slice.slicePlaces
  rw [if_neg (by decide)]
  by_cases h : (n : Int) - 1 > -1
  · rw [if_pos h]
    simp only [Int.neg_neg, Int.ediv_one]
    omega
  · rw [if_neg h]
    omega
theorem back_adjust (n : Int) : Builtin.Slice.sliceAdjust none none (-1) n = (n - 1, -1) := by
  unfold Builtin.Slice.sliceAdjust
  simp
theorem back_item {tt sl : Addr} {its : Array Value} {vl vu vs : Value} {Q : Value → Shared → Prop} (ht : IsTup s.heap tt its) (hs : s.heap.IsSliceOf sl vl vu vs) (pl : IsPart vl none) (pu : IsPart vu none) (ps : IsPart vs (some (-1)))
    (h : Q (.ref s.heap.objs.size) { s with heap := s.heap.push { cls := .type "tuple", data := .seq its.toList.reverse.toArray } }) (hz : its.size ≤ sizeLine) : wpAny (model prog w) A (getItem (.ref tt) (.ref sl)) Q E s := by
  have room : (its.toList.reverse.toArray).size ≤ sizeLine := by
    rw [List.size_toArray, List.length_reverse, Array.length_toList]
    exact hz
  obtain ⟨os, hos, hcs, hds⟩ := id hs
  have sliceT : s.TypeIs (.ref sl) "slice" := ⟨os, hos, hcs⟩
  unfold getItem
  try with_reducible refine wpAny_holding ?_
  first | refine wpAny_bind (wpAny_pure ?_) | skip
  refine wpAny_bind (wpAny_sequenceKey ht.typeIs (by decide) ?_)
  refine wpAny_bind (wpAny_callSpecial?_slot (name := Str.ofString "__getitem__") ht.typeIs PyProof.Rows.slot_tuple_getitem (wpAny_call_entry PyProof.Rows.slot_tuple_getitem ht.typeIs entry_tuple_getitem ?_ (args_tuple_getitem _ _)))
  show wpAny _ _ (Builtin.Tuple.tupleItemsOf (.ref tt) >>= _) _ _ s
  refine wpAny_bind (tupleItemsOf_ ht ?_)
  refine wpAny_bind (wpAny_typeOf sliceT ?_)
  rw [if_pos (by decide)]
  refine wpAny_bind (m := Builtin.Slice.sliceApplied (.ref sl) (pure (its.size : Int))) ?_
  unfold Builtin.Slice.sliceApplied Builtin.Slice.sliceFields
  refine wpAny_bind (wpAny_bind (wpAny_field hos hds (x := vl) rfl (wpAny_bind (wpAny_field hos hds (x := vu) rfl (wpAny_bind (wpAny_field hos hds (x := vs) rfl (wpAny_pure ?_)))))))
  refine wpAny_bind (HT.slicePart_ ps ?_)
  show wpAny _ _ (if ((-1 : Int) == 0) = true then _ else _) _ _ s
  rw [if_neg (by decide)]
  refine wpAny_bind (HT.slicePart_ pl (wpAny_bind (HT.slicePart_ pu (wpAny_bind (wpAny_pure ?_)))))
  show wpAny _ _ (match Builtin.Slice.sliceAdjust none none (-1) (its.size : Int) with | (lo, hi) => pure (lo, (-1 : Int), Builtin.Slice.slicePlaces lo hi (-1))) _ _ s
  rw [back_adjust]
  show wpAny _ _ (pure ((its.size : Int) - 1, (-1 : Int), Builtin.Slice.slicePlaces ((its.size : Int) - 1) (-1) (-1))) _ _ s
  rw [back_places]
  refine wpAny_pure ?_
  show wpAny _ _ (if (((its.size : Int) - 1 == 0 && (-1 : Int) == 1) && its.size == its.size) = true then _ else _) _ _ s
  rw [if_neg (by simp)]
  rw [back_pick]
  first
    | exact wpAny_bind (m := Builtin.Tuple.tupleExact _) (wpAny_newObj_type (wpAny_pure ⟨_, rfl, wpAny_pure h⟩) room)
    | exact wpAny_bind (m := Builtin.Tuple.tupleExact _) (wpAny_newObj_type (wpAny_bind (wpAny_pure (wpAny_pure ⟨_, rfl, wpAny_pure h⟩))) room)
    | exact wpAny_bind (wpAny_bind (m := Builtin.Tuple.tupleExact _) (wpAny_newObj_type (wpAny_pure (wpAny_pure ⟨_, rfl, wpAny_pure h⟩)) room))
    | exact wpAny_bind (wpAny_bind (m := Builtin.Tuple.tupleExact _) (wpAny_newObj_type (wpAny_pure ⟨_, rfl, wpAny_pure h⟩) room))
end
def tRevT (K : PySem.W.Frag) (te : TE) : TE := fun σ H Q => te σ H fun x H1 => ∃ a xs, x = .ref a ∧ SqT K H1 a xs ∧ ∀ p, H1 p = none → Q (.ref p) (upd H1 p (.tup xs.reverse))
theorem pe_revT {X : Cx} {e : Expr} {te : TE} {k : Nat} {p1 p2 p3 pos : Pos} (he : PE X e te) : PE X (.Subscript e (.Slice none none (some (.UnaryOp .USub (.Constant (.int 1) k p1) p2)) p3) pos) (tRevT X.K te) := by
  constructor
  intro pins s σ H Q I h
  refine Subscript_ (thn (he.run pins s σ H _ I h) fun v s1 got => ?_)
  obtain ⟨x, H1, I1, r1, a, xs, rfl, hx, q⟩ := got
  cases r1
  have part : PO X (some (.UnaryOp .USub (.Constant (.int 1) k p1) p2)) (tPart (tUn (rU fun i => .int (-i)) (tC (.int 1)))) := po_some (pe_un un_neg pe_int)
  refine wpAny_Slice (thn (po_none.run pins s1 σ H1 (fun o H2 => o = none ∧ H2 = H1) I1 ⟨rfl, rfl⟩) fun vl s2 g2 => ?_)
  obtain ⟨l, H2, I2, pl, rfl, rfl⟩ := g2
  refine thn (po_none.run pins s2 σ H2 (fun o H3 => o = none ∧ H3 = H2) I2 ⟨rfl, rfl⟩) fun vu s3 g3 => ?_
  obtain ⟨u, H3, I3, pu, rfl, rfl⟩ := g3
  refine thn (part.run pins s3 σ H3 (fun o H4 => o = some (-1) ∧ H4 = H3) I3 ⟨1, rfl, -1, rfl, rfl, rfl⟩) fun vs s4 g4 => ?_
  obtain ⟨o, H4, I4, ps, rfl, rfl⟩ := g4
  have I5 : Inv X pins σ H4 { s4 with heap := s4.heap.push { cls := .type "slice", data := .fields #[vl, vu, vs] } } := I4.kept (t' := s4.toks) fun b ob q => Heap.get?_push_of_some _ q
  obtain ⟨its, r, ht, hz⟩ := I5.tuple hx
  have hl := r.length
  show wpAny (model X.prog X.w) X.A (subscriptTail e (.Slice none none (some (.UnaryOp .USub (.Constant (.int 1) k p1) p2)) p3) (.ref a) (.ref s4.heap.objs.size)) (EP X pins σ Q) X.xe { s4 with heap := s4.heap.push { cls := .type "slice", data := .fields #[vl, vu, vs] } }
  refine tail_any (ops := [.ref a, .ref s4.heap.objs.size]) ht.typeIs (PyProof.Rows.slot_tuple_getitem.lookup) ?_ (by with_unfolding_all rfl)
  refine back_item ht (Heap.IsSliceOf.new _ vl vu vs) pl pu ps ?_ (by rw [List.size_toArray]; omega)
  refine ⟨.ref _, _, I5.laid (t' := s4.toks) (o := .tup xs.reverse) (fun b ob q => Heap.get?_push_of_some _ q) (Nat.le_refl _) ?_, rfl, q _ (I5.hok.fresh (Nat.le_refl _))⟩
  exact ⟨by rw [List.length_reverse]; exact hz, its.reverse, r.reverse, IsTup.new _ _⟩
/-! ### sorted of a tuple of ints -/
section
variable {prog : Program} {w : World} {A : Around} {E : Value → Shared → Prop} {s : Shared}
theorem collectT {l : Addr} {vs : List Value} {Q : List Value → Shared → Prop} (hl : s.heap.IsTuple l vs.toArray) (h : Q vs { s with heap := (s.heap.push (seqObj "list" #[] 0)).update s.heap.objs.size (Obj.mapSeq (· ++ vs.toArray)) })
    (hsz : vs.length ≤ sizeLine) : wpAny (model prog w) A (collect (.ref l)) Q E s := by
  obtain ⟨o, ho, hc, n, hd⟩ := id hl
  unfold collect
  refine wpAny_bind (wpAny_runValue (codeAny_builtin entry_proto_collect' ?_))
  show wpAny _ _ (do again (.builtin "list.__iadd__" ⟨[← newList [], .ref l], []⟩)) _ _ s
  refine wpAny_bind (wpAny_newList (wpAny_pure ⟨Code.quiet_builtin _ (by decide +kernel), codeAny_builtin entry_list_iadd' ?_⟩))
  show wpAny _ _ (Builtin.List.listExtendWith (.ref s.heap.objs.size) (.ref l) (.ref s.heap.objs.size)) _ _ { s with heap := s.heap.push (seqObj "list" #[] 0) }
  unfold Builtin.List.listExtendWith
  have there : (s.heap.push (seqObj "list" #[] 0)).get? l = some o := Heap.get?_push_of_some _ ho
  refine wpAny_bind (wpAny_typeOf (T := "tuple") ⟨o, there, hc⟩ ?_)
  have same : (Value.type "tuple" == Value.type "tuple") = true := by rfl
  rw [if_pos (by rw [same]; simp)]
  refine wpAny_bind (listItems_at there hd ?_)
  refine wpAny_bind (listItems_at (xs := #[]) (n := 0) (Heap.get?_push_size _ rfl) rfl ?_)
  rw [if_neg (by simp)]
  refine wpAny_bind (listUpdate_at (xs := #[]) (n := 0) (Heap.get?_push_size _ rfl) rfl ?_ (Nat.zero_le _) (by show (#[] ++ vs.toArray).size ≤ sizeLine + 1; simp only [Array.size_append, List.size_toArray, List.length_nil]; omega))
  refine wpAny_pure ?_
  show wpAny (model prog w) A (do
      let o ← load s.heap.objs.size
      match o.data with
      | .seq xs _ => pure xs.toList
      | _ => unsupported "internal:collect") Q E { s with heap := (s.heap.push (seqObj "list" #[] 0)).update s.heap.objs.size (Obj.mapSeq (· ++ vs.toArray)) }
  refine wpAny_bind (wpAny_load (get?_update_seq (Heap.get?_push_size _ rfl) _) ?_)
  show wpAny _ _ (pure ((#[] : Array Value) ++ vs.toArray).toList) Q E _
  rw [show ((#[] : Array Value) ++ vs.toArray).toList = vs by simp]
  exact wpAny_pure h
theorem sortedT {l : Addr} {vs : List Value} {ns : List Int} {Q : Value → Shared → Prop} (hl : s.heap.IsTuple l vs.toArray) (hI : IntsAre vs ns) (few : vs.length < 64)
    (h : ∀ (out : Array Value) (ns' : List Int), IntsAre out.toList ns' → ns'.Perm ns → ns'.Pairwise (· ≤ ·) → Q (.ref (s.heap.objs.size + 1)) { s with heap := sortedAll s.heap vs out }) :
    wpAny (model prog w) A (call (.builtin "sorted") [.ref l]) Q E s := by
  refine Calls.call_function_entry kind_sorted plain_sorted entry_sorted (args_sorted1 _) ?_
  unfold Builtin.«sorted»
  refine wpAny_bind (m := checkCount "sorted" 1 1 _) (wpAny_pure ?_)
  refine wpAny_bind (collectT hl ?_ (by rw [sizeLine_eq]; omega))
  refine wpAny_bind (wpAny_newList ?_)
  have sz : ((s.heap.push (seqObj "list" #[] 0)).update s.heap.objs.size (Obj.mapSeq (· ++ vs.toArray))).objs.size = s.heap.objs.size + 1 := by
    rw [Heap.size_update, size_push']
  have at1 : (((s.heap.push (seqObj "list" #[] 0)).update s.heap.objs.size (Obj.mapSeq (· ++ vs.toArray))).push (seqObj "list" vs.toArray 0)).get? (s.heap.objs.size + 1) = some (seqObj "list" vs.toArray 0) := by
    rw [← sz]
    exact Heap.get?_push_size _ rfl
  show wpAny _ _ _ _ _ { s with heap := ((s.heap.push (seqObj "list" #[] 0)).update s.heap.objs.size (Obj.mapSeq (· ++ vs.toArray))).push (seqObj "list" vs.toArray 0) }
  rw [sz]
  refine wpAny_bind (wpAny_holding (wpAny_call_entry slot_list_sort ⟨_, at1, rfl⟩ entry_list_sort (list_sort_tree at1 hI few fun out ns' a1 a2 a3 => ⟨_, rfl, ?_⟩) (args_list_sort _)))
  exact wpAny_pure ⟨_, rfl, h out ns' a1 a2 a3⟩
end
theorem ints_rel : ∀ {ns : List Int} {us : List Value}, Vals (ns.map V.int) us → IntsAre us ns
  | [], _, r => by cases r; exact .nil
  | n :: ns, _, r => by
    cases r with
    | cons r1 r2 =>
      obtain ⟨t, rfl⟩ := r1
      exact .cons n t (ints_rel r2)
theorem rel_ints : ∀ {us : List Value} {ns : List Int}, IntsAre us ns → Vals (ns.map V.int) us
  | _, _, .nil => .nil
  | _, _, .cons n t r => .cons ⟨t, rfl⟩ (rel_ints r)
/-- sorted(xs), ints of a list or a tuple, fewer than 64 -/
def rSortedQ (K : PySem.W.Frag) : List V → Hp → VK → Prop := fun vs H Q => ∃ (a : Addr) (ns : List Int), vs = [V.ref a] ∧ (SqL K H a (ns.map V.int) ∨ SqT K H a (ns.map V.int)) ∧ ns.length < 64 ∧
  ∀ (ns' : List Int) (p : Addr), ns'.Perm ns → ns'.Pairwise (· ≤ ·) → H p = none → Q (.ref p) (upd H p (.lst (ns'.map V.int)))
theorem cr_sortedQ {X : Cx} : CallR X (.builtin "sorted") (rSortedQ X.K) := by
  intro pins s σ H vs us Q I r h
  obtain ⟨a, ns, rfl, hq, few, q⟩ := h
  rcases hq with hq | hq
  · exact cr_sortedI pins s σ H [.ref a] us Q I r ⟨a, ns, rfl, hq, q⟩
  · rw [Vals.ref1 r]
    obtain ⟨its, rv, p, hz⟩ := I.tuple hq
    have hlen := rv.length
    rw [List.length_map] at hlen
    refine sortedT (show s.heap.IsTuple a its.toArray from p) (ints_rel rv) (by omega) fun out ns' h1 h2 h3 => ?_
    obtain ⟨ep, he⟩ := sortedAll_at s.heap its out
    have hl2 : (ns'.map V.int).length ≤ sizeLine := by
      rw [List.length_map, h2.length_eq, sizeLine_eq]
      omega
    exact ⟨.ref _, upd H (s.heap.objs.size + 1) (.lst (ns'.map V.int)), I.laid (t' := s.toks) (fun _ _ => sortedAll_old) (Nat.le_succ _) ⟨hl2, out.toList, ep, rel_ints h1, by simpa using he⟩, rfl, q ns' _ h2 h3 (I.hok.fresh (Nat.le_succ _))⟩
/-! ### a, b = a list or a tuple -/
def gSeq (K : PySem.W.Frag) (n : Nat) (t : TGs) : TG := fun v σ H Q => ∃ a xs, v = .ref a ∧ (SqL K H a xs ∨ SqT K H a xs) ∧ xs.length = n ∧ t xs σ H Q
theorem pg_seq {X : Cx} {es : List Expr} {k n : Nat} {t : TGs} {pos : Pos} (hc : X.calm = true) (h : PGs X es t) (hn : (assignEach es X.env).length = n := by rfl) (hst : (assignEach es X.env).findIdx? (·.1) = none := by rfl) : PG X (.Tuple es k pos) (gSeq X.K n t) := by
  constructor
  intro pins s σ H v u Q I r hw
  obtain ⟨a, xs, rfl, hq, hl, hw⟩ := hw
  rcases hq with hq | hq
  · exact (pg_lst (k := k) (pos := pos) hc h hn hst).run pins s σ H _ u Q I r ⟨a, xs, rfl, hq, hl, hw⟩
  · exact (pg_tup (k := k) (pos := pos) hc h hn hst).run pins s σ H _ u Q I r ⟨a, xs, rfl, hq, hl, hw⟩

/-! ### set(xs) of a list of ints -/
/-- a new set's object -/
abbrev blank (w : World) : Obj := { cls := .type "set", dict := none, data := .set #[] 0 (.fresh 0 0 (!w.params.followText "set-order")) }
section
variable {P : Program} {w : World} {A : Around} {E : Value → Shared → Prop} {s : Shared}
theorem set_lst {l : Addr} {its : Array Value} (ns : List Int) {Q : Value → Shared → Prop} (calm : A.handled = none) (isL : s.heap.IsList l its) (are : IntsAre its.toList ns) (few : ns.length + 1 < scanBound)
    (go : ∀ (g : Heap) (tk c : Nat), SetR w g s.heap.objs.size (fun j => decide (j ∈ ns)) c → c ≤ ns.length → (∀ b o, s.heap.get? b = some o → g.get? b = some o) → Q (.ref s.heap.objs.size) { s with heap := g, toks := tk }) :
    wpAny (model P w) A (call (.type "set") [.ref l]) Q E s := by
  have size : its.size = ns.length := by
    have z := IntsAre.length are
    rwa [Array.length_toList] at z
  have ⟨c, tl, hmro⟩ := F.called_set.mro
  have hmade := F.called_set.made; have hsub := F.called_set.sub
  refine wpAny_call (codeAny_of_tree (?_ : wpAny _ _ (callAny (.type "set") _) _ _ _))
  refine wpAny_pure ⟨Code.quiet_builtin _ (by decide +kernel), codeAny_builtin F.entry_type_call (?_ : _)⟩
  rw [Around.under_plain (weight_type_call_type "set" [.ref l] []) (by rfl)]
  have h1 := F.called_set.notType; have h2 := F.called_set.canCreate; have hct := F.typeCall_set_1 (.ref l)
  repeat (any_goals (first | assumption | (wp_step)))
  refine codeAny_mono (code_set_led1 (.ref l) (E := E) (Q₁ := fun obj t => obj = .ref s.heap.objs.size ∧ t = { s with heap := s.heap.push (blank w) }) ⟨rfl, rfl⟩) fun r t made => ?_
  cases r with
  | error e => exact made
  | ok fl =>
    cases fl with
    | ret obj =>
      obtain ⟨rfl, rfl⟩ := made
      have atS : (s.heap.push (blank w)).get? s.heap.objs.size = some (blank w) := Heap.get?_push_size _ rfl
      have hT : Shared.TypeIs { s with heap := s.heap.push (blank w) } (.ref s.heap.objs.size) "set" := ⟨_, atS, rfl⟩
      have hli := F.called_set.init.lookup; have hbi := F.called_set.init.bind (.ref s.heap.objs.size)
      repeat (any_goals (first | assumption | (wp_step)))
      refine codeAny_mono (codeAny_call_builtin (R := wants (fun r t2 => r = .none ∧ ∃ g tk c, t2 = { s with heap := g, toks := tk } ∧ SetR w g s.heap.objs.size (fun j => decide (j ∈ ns)) c ∧ c ≤ ns.length ∧ (∀ b o, s.heap.get? b = some o → g.get? b = some o)) E)
        F.called_set.init.plain F.entry_set_init (check_set_init_1 hT ?_)) fun r2 t2 done2 => ?_
      · obtain ⟨⟨ocls, odict, odata, oslots⟩, hol, hcl, nl, hdl⟩ := isL
        simp only at hcl hdl
        subst hcl hdl
        have hol' : (s.heap.push (blank w)).get? l = some { cls := .type "list", dict := odict, data := .seq its nl, slots := oslots } := Heap.get?_push_of_some _ hol
        have hsls := F.sub_list_set; have hslf := F.sub_list_frozenset
        have hne : (Value.type "list" == Value.type "dict") = false := (by decide)
        have isL1 : (s.heap.push (blank w)).IsList l its := ⟨_, hol', rfl, nl, rfl⟩
        unfold Builtin.«set.__init__» noKeywords Builtin.Frozenset.updateFrom
        generalize hPI : pyIter = PI
        wp_walk
        subst hPI
        refine wpAny_pyIter_list isL1 ?_
        refine wpAny_bind (wpAny_runValue (?_ : _))
        have lS : l < s.heap.objs.size := Heap.lt_size hol
        have calm3 : A.in1.in1.in1.handled = none := by simp [calm]
        have z1 : (s.heap.push (blank w)).objs.size = s.heap.objs.size + 1 := Heap.size_push ..
        have apart : l ≠ (s.heap.push (blank w)).objs.size := by
          rw [z1]
          exact Nat.ne_of_lt (Nat.lt_succ_of_lt lS)
        have out : s.heap.objs.size ∉ [(s.heap.push (blank w)).objs.size, l] := by
          rw [z1]
          simp only [List.mem_cons, List.not_mem_nil, or_false, not_or]
          exact ⟨Nat.ne_of_lt (Nat.lt_succ_self _), (Nat.ne_of_gt lS)⟩
        have each : ∀ (i : Nat) (v : Value), its[i]? = some v → ∃ k t, ns[i]? = some k ∧ v = .int k t := by
          intro i v hv
          have hi : i < ns.length := size ▸ (Array.getElem?_eq_some_iff.mp hv).1
          obtain ⟨t, e⟩ := IntsAre.int_at are i v (by rw [Array.getElem?_toList]; exact hv)
          refine ⟨ns[i], t, List.getElem?_eq_getElem hi, e.trans ?_⟩
          rw [List.getD_eq_getElem?_getD, List.getElem?_eq_getElem hi]
          rfl
        refine set_update_ints ((Walks.list calm3 _ l apart its).toS) s.heap.objs.size out ns size few each (its.size - 0) 0 _ (by omega) (Nat.zero_le _) ⟨⟨_, Heap.get?_push_size _ rfl, rfl, rfl⟩, isL1.push _⟩ ?first ?last
        case first =>
          exact ⟨0, Nat.le_refl 0, setR_new_at (Heap.get?_push_of_some _ atS)⟩
        case last =>
          intro t3 c3 moved le3 R3
          obtain ⟨g3, gens3, drawn3, tk3, os3⟩ := t3
          obtain rfl : gens3 = s.gens := moved.gens
          obtain rfl : drawn3 = s.drawn := moved.drawn
          obtain rfl : os3 = s.os := moved.os
          refine wpAny_pure ?_
          show wpAny _ _ (ret Value.none) _ _ _
          rw [size] at le3
          refine wpAny_pure ⟨rfl, g3, tk3, c3, rfl, R3, le3, fun b o e => ?_⟩
          have b0 : b < s.heap.objs.size := Heap.lt_size e
          refine moved.heap b o ?_ (Heap.get?_push_of_some _ (Heap.get?_push_of_some _ e))
          simp only [List.mem_cons, List.not_mem_nil, or_false, not_or]
          refine ⟨Nat.ne_of_lt b0, ?_⟩
          rw [z1]
          exact Nat.ne_of_lt (Nat.lt_succ_of_lt b0)
      · cases r2 with
        | error e => exact done2
        | ok fl2 =>
          cases fl2 with
          | ret r =>
            obtain ⟨rfl, g, tk, c, rfl, R4, le4, kept⟩ := done2
            repeat (any_goals (first | assumption | (wp_step)))
            exact go g _ c R4 le4 kept
          | _ => exact done2.elim
    | _ => exact made.elim
end
/-- set(xs), ints of a list or a tuple -/
def rSetQ (K : PySem.W.Frag) (w : World) : List V → Hp → VK → Prop := fun xs H Q => ∃ (a : Addr) (ns : List Int), xs = [V.ref a] ∧ (SqL K H a (ns.map V.int) ∨ SqT K H a (ns.map V.int)) ∧ ns.length ≤ 1000 ∧
  ∀ (p : Addr) (c : Nat), c ≤ ns.length → H p = none → Q (.ref p) (upd H p (SetO w p (fun j => decide (j ∈ ns)) c))
theorem cr_setQ {X : Cx} (hc : X.calm = true) : CallR X (.type "set") (rSetQ X.K X.w) := by
  intro pins s σ H xs us Q I r h
  obtain ⟨a, ns, rfl, hq, few, q⟩ := h
  have room : ns.length + 1 < scanBound := by
    unfold scanBound
    omega
  rw [Vals.ref1 r]
  rcases hq with hq | hq
  · obtain ⟨its, rv, p, hz⟩ := I.list hq
    refine set_lst ns (I.ok.hd hc) p.isList (by simpa using ints_rel rv) room fun g tk c R le kept => ?_
    exact ⟨.ref _, _, I.laid (t' := tk) kept (Nat.le_refl _) (setO_new R), rfl, q _ c le (I.hok.fresh (Nat.le_refl _))⟩
  · obtain ⟨its, rv, p, hz⟩ := I.tuple hq
    refine call_set_tupI ns (I.ok.hd hc) (show s.heap.IsTuple a its.toArray from p) (by simpa using ints_rel rv) room fun g tk c R le kept => ?_
    exact ⟨.ref _, _, I.laid (t' := tk) kept (Nat.le_refl _) (setO_new R), rfl, q _ c le (I.hok.fresh (Nat.le_refl _))⟩

/-! ### rows of drafts: the mathematics -/
/-- a word of a draft: a number, or a sum as it is told -/
inductive WordM where
  | num (k : Int)
  | sum (n : Int) (l : List (List Key × Int))
inductive Row where
  | words (ws : List WordM)
  | label (s : Str)
  | even (n : Int)
  | branch (c n : Str) (m : Int)
/-- how many words a row has that begins at c -/
def rsize (r : Row) (c : Int) (far : Bool) : Int := match r with
  | .words ws => (ws.length : Int)
  | .label _ => 0
  | .even n => (-c) % n
  | .branch _ _ _ => if far = true then 2 else 1
def off (f : Int → Bool) (rs : List Row) : Nat → Int
  | 0 => 0
  | i + 1 => off f rs i + (match rs[i]? with
    | some r => rsize r (off f rs i) (f (i : Nat))
    | none => 0)
def isBr (rs : List Row) (i : Nat) : Bool := match rs[i]? with
  | some (.branch _ _ _) => true
  | _ => false
/-- the label that stands at i -/
def labOf (rs : List Row) (i : Nat) : Option Str := match rs[i]? with
  | some (.label s) => some s
  | _ => none
/-- the label to which the branch at i leads -/
def toOf (rs : List Row) (i : Nat) : Option Str := match rs[i]? with
  | some (.branch _ n _) => some n
  | _ => none
/-- the dict from labels to the numbers of their rows, of the first i rows -/
def spD (rs : List Row) : Nat → List (Key × V)
  | 0 => []
  | i + 1 => match labOf rs i with
    | some s => putK (spD rs i) (Sum.inr s) (.int (i : Nat))
    | none => spD rs i
theorem spD_len (rs : List Row) : ∀ i, (spD rs i).length ≤ i
  | 0 => Nat.le_refl _
  | i + 1 => by
    unfold spD
    have h := spD_len rs i
    split
    · have := length_putK (spD rs i) (Sum.inr (by assumption) : Key) (.int (i : Nat))
      omega
    · omega
/-- where a label stands -/
def spV (rs : List Row) (n : Str) : Option V := valV (spD rs rs.length) (Sum.inr n)
theorem spD_val (rs : List Row) (n : Str) (v : V) : ∀ i, valV (spD rs i) (Sum.inr n) = some v → ∃ j, j < i ∧ v = .int (j : Nat) ∧ labOf rs j = some n
  | 0, h => by cases h
  | i + 1, h => by
    unfold spD at h
    cases e : labOf rs i with
    | none =>
      rw [e] at h
      obtain ⟨j, h1, h2⟩ := spD_val rs n v i h
      exact ⟨j, by omega, h2⟩
    | some s =>
      rw [e] at h
      dsimp only at h
      rw [valV_put] at h
      split at h
      · rename_i e2
        cases h
        have : n = s := Sum.inr.inj e2
        exact ⟨i, by omega, rfl, by rw [e, this]⟩
      · obtain ⟨j, h1, h2⟩ := spD_val rs n v i h
        exact ⟨j, by omega, h2⟩
def spot (rs : List Row) (n : Str) : Option Nat := match spV rs n with
  | some (.int k) => some k.toNat
  | _ => none
theorem spV_some {rs : List Row} {n : Str} {v : V} (h : spV rs n = some v) : ∃ j, spot rs n = some j ∧ v = .int (j : Nat) ∧ j < rs.length ∧ labOf rs j = some n := by
  obtain ⟨j, h1, rfl, h3⟩ := spD_val rs n v _ h
  refine ⟨j, ?_, rfl, h1, h3⟩
  unfold spot
  rw [h]
  simp
theorem spV_none {rs : List Row} {n : Str} (h : spV rs n = none) : spot rs n = none := by
  unfold spot
  rw [h]
theorem spot_spV (rs : List Row) (n : Str) : spV rs n = (spot rs n).map fun j => .int (j : Nat) := by
  cases e : spV rs n with
  | none => rw [spV_none e]; rfl
  | some v =>
    obtain ⟨j, h1, h2, _⟩ := spV_some e
    rw [h1, h2]
    rfl
theorem spot_lt {rs : List Row} {n : Str} {j : Nat} (h : spot rs n = some j) : j < rs.length := by
  have e := spot_spV rs n
  rw [h] at e
  obtain ⟨j', h1, h2, h3, _⟩ := spV_some e
  rw [h] at h1
  cases h1
  exact h3
/-- where the branch at k leads, if in the draft -/
def aim (rs : List Row) (k : Nat) : Option Nat := (toOf rs k).bind (spot rs)
theorem aim_lt {rs : List Row} {k j : Nat} (h : aim rs k = some j) : j < rs.length ∧ k < rs.length := by
  unfold aim at h
  cases e : toOf rs k with
  | none => rw [e] at h; cases h
  | some n =>
    rw [e] at h
    refine ⟨spot_lt h, ?_⟩
    unfold toOf at e
    cases e2 : rs[k]? with
    | none => rw [e2] at e; cases e
    | some r => exact (List.getElem?_eq_some_iff.mp e2).1
def brsTo (rs : List Row) (i : Nat) : List Nat := (List.range i).filter (isBr rs)
def brs (rs : List Row) : List Nat := brsTo rs rs.length
def innTo (rs : List Row) (i : Nat) : List Nat := (List.range i).filter fun k => (aim rs k).isSome
def inn (rs : List Row) : List Nat := innTo rs rs.length
def outs (rs : List Row) : List Nat := (brs rs).filter fun k => (aim rs k).isNone
def way (f : Int → Bool) (rs : List Row) (k : Nat) : Int := off f rs ((aim rs k).getD 0) - off f rs k
def tooL (w : Int) : Bool := decide (w < -256) || decide (w > 255)
def isLong (f : Int → Bool) (rs : List Row) (k : Nat) : Bool := !f (k : Nat) && tooL (way f rs k)
/-- the near branches that are too long if f are far -/
def long (f : Int → Bool) (rs : List Row) : List Nat := (inn rs).filter (isLong f rs)
def nats (ks : List Nat) : List V := ks.map fun (k : Nat) => V.int (k : Int)
theorem nats_int (ks : List Nat) : nats ks = (ks.map fun (k : Nat) => (k : Int)).map V.int := by
  unfold nats
  rw [List.map_map]
  rfl
theorem nats_len (ks : List Nat) : (nats ks).length = ks.length := List.length_map ..
theorem nats_app (ks js : List Nat) : nats (ks ++ js) = nats ks ++ nats js := List.map_append ..
/-- membership of a list of nats -/
def mem (ns : List Int) : Int → Bool := fun k => decide (k ∈ ns)
theorem isBr_to {rs : List Row} {k : Nat} : isBr rs k = (toOf rs k).isSome := by
  unfold isBr toOf
  cases rs[k]? with
  | none => rfl
  | some r => cases r <;> rfl
theorem brs_inn (rs : List Row) : (brs rs).filter (fun k => (aim rs k).isSome) = inn rs := by
  unfold brs brsTo inn innTo
  rw [List.filter_filter]
  congr 1
  funext k
  rw [isBr_to]
  unfold aim
  cases toOf rs k with
  | none => rfl
  | some n => simp
theorem long_cong {f g : Int → Bool} {rs : List Row} (h : ∀ k, f k = g k) : long f rs = long g rs := by
  have : f = g := funext h
  rw [this]
/-! ### inV over nats -/
theorem inV_ints (k : Int) (ns : List Int) : inV (.int k) (ns.map V.int) = decide (k ∈ ns) := by
  unfold inV
  induction ns with
  | nil => simp
  | cons n ns ih =>
    rw [List.map_cons, List.any_cons, ih]
    have e : eqV (.int n) (.int k) = decide (n = k) := by
      by_cases h : n = k
      · subst h; simp [eqV]
      · simp [eqV, h]
    rw [e]
    by_cases h1 : n = k
    · subst h1; simp
    · have h2 : ¬ k = n := fun z => h1 z.symm
      simp [h1, h2, List.mem_cons]
theorem flat_ints (ns : List Int) : (ns.map V.int).all flatV = true := by
  rw [List.all_eq_true]
  intro x hx
  obtain ⟨n, _, rfl⟩ := List.mem_map.mp hx
  rfl
/-! ### rows in the heap -/
def RowV (K : PySem.W.Frag) (H : Hp) (v : V) : Row → Prop
  | .words ws => ∃ a b, v = .ref a ∧ SqT K H a [.str "words", .ref b] ∧ ∃ xs, (SqL K H b xs ∨ SqT K H b xs) ∧ xs.length = ws.length
  | .label s => ∃ a, v = .ref a ∧ SqT K H a [.str "label", .str s]
  | .even n => ∃ a, v = .ref a ∧ SqT K H a [.str "even", .int n]
  | .branch c n m => ∃ a, v = .ref a ∧ SqT K H a [.str "branch", .str c, .str n, .int m]
theorem rowV_same {K : PySem.W.Frag} {H H' : Hp} {v : V} {r : Row} (e : Same H H') (h : RowV K H v r) : RowV K H' v r := by
  cases r with
  | words n =>
    obtain ⟨a, b, h1, h2, xs, h3, h4⟩ := h
    exact ⟨a, b, h1, sqT_same e h2, xs, h3.imp (sqL_same e) (sqT_same e), h4⟩
  | label s =>
    obtain ⟨a, h1, h2⟩ := h
    exact ⟨a, h1, sqT_same e h2⟩
  | even n =>
    obtain ⟨a, h1, h2⟩ := h
    exact ⟨a, h1, sqT_same e h2⟩
  | branch c n m =>
    obtain ⟨a, h1, h2⟩ := h
    exact ⟨a, h1, sqT_same e h2⟩
inductive RowsV (K : PySem.W.Frag) (H : Hp) : List V → List Row → Prop
  | nil : RowsV K H [] []
  | cons {v : V} {vs : List V} {r : Row} {rs : List Row} : RowV K H v r → RowsV K H vs rs → RowsV K H (v :: vs) (r :: rs)
theorem rowsV_same {K : PySem.W.Frag} {H H' : Hp} (e : Same H H') : ∀ {xs : List V} {rs : List Row}, RowsV K H xs rs → RowsV K H' xs rs
  | _, _, .nil => .nil
  | _, _, .cons h t => .cons (rowV_same e h) (rowsV_same e t)
theorem rowsV_get {K : PySem.W.Frag} {H : Hp} : ∀ {xs : List V} {rs : List Row}, RowsV K H xs rs → ∀ {i : Nat} {v : V}, xs[i]? = some v → ∃ r, rs[i]? = some r ∧ RowV K H v r
  | _, _, .nil, i, v, h => by simp at h
  | _, _, .cons g t, 0, v, e => by
    obtain rfl : _ = v := Option.some.inj e
    exact ⟨_, rfl, g⟩
  | _, _, .cons g t, i + 1, v, e => rowsV_get t (i := i) e
theorem rowsV_len {K : PySem.W.Frag} {H : Hp} : ∀ {xs : List V} {rs : List Row}, RowsV K H xs rs → xs.length = rs.length
  | _, _, .nil => rfl
  | _, _, .cons _ t => congrArg (· + 1) (rowsV_len t)
/-- the kind of a row -/
def kindOf : Row → Str
  | .words _ => "words"
  | .label _ => "label"
  | .even _ => "even"
  | .branch _ _ _ => "branch"
/-- what a row's tuple holds -/
theorem rowV_tup {K : PySem.W.Frag} {H : Hp} {v : V} {r : Row} (h : RowV K H v r) : ∃ a xs, v = .ref a ∧ SqT K H a xs ∧ xs[0]? = some (.str (kindOf r)) := by
  cases r with
  | words n =>
    obtain ⟨a, b, h1, h2, _⟩ := h
    exact ⟨a, _, h1, h2, rfl⟩
  | label s =>
    obtain ⟨a, h1, h2⟩ := h
    exact ⟨a, _, h1, h2, rfl⟩
  | even n =>
    obtain ⟨a, h1, h2⟩ := h
    exact ⟨a, _, h1, h2, rfl⟩
  | branch c n m =>
    obtain ⟨a, h1, h2⟩ := h
    exact ⟨a, _, h1, h2, rfl⟩
theorem at_of {xs : List V} {i : Nat} {v : V} (h : xs[i]? = some v) : atI xs (i : Int) = some v := by
  have hi : i < xs.length := (List.getElem?_eq_some_iff.mp h).1
  unfold atI ixN
  rw [if_pos (by omega), if_pos (by omega)]
  show xs[((i : Int)).toNat]? = _
  rw [Int.toNat_natCast]
  exact h
theorem at_last {xs : List V} {v : V} : atI (xs ++ [v]) (-1) = some v := by
  unfold atI ixN
  rw [if_neg (by omega), if_pos (by simp; omega)]
  show (xs ++ [v])[_]? = _
  have e : (-1 + ((xs ++ [v]).length : Int)).toNat = xs.length := by
    rw [List.length_append, List.length_singleton]
    omega
  rw [e]
  simp

theorem strEq (a b : Str) : decide (V.str a = V.str b) = decide (a = b) := by
  by_cases c : a = b
  · rw [c]; simp
  · rw [decide_eq_false c]
    exact decide_eq_false fun z => c (V.str.inj z)
theorem intEq (a b : Int) : decide (V.int a = V.int b) = decide (a = b) := by
  by_cases c : a = b
  · rw [c]; simp
  · rw [decide_eq_false c]
    exact decide_eq_false fun z => c (V.int.inj z)
/-- a text compared with one that it is, that it is not -/
theorem kEq {k s : Str} {A B : Prop} (c : decide (k = s) = true) (h : A) : if decide (V.str k = V.str s) = true then A else B := by
  rw [strEq, c]
  exact iteT h
theorem kNe {k s : Str} {A B : Prop} (c : decide (k = s) = false) (h : B) : if decide (V.str k = V.str s) = true then A else B := by
  rw [strEq, c]
  exact iteF h
theorem kEqb {k s : Str} {Q : Bool → Prop} (c : decide (k = s) = true) (h : Q true) : Q (decide (V.str k = V.str s)) := by
  rw [strEq, c]
  exact h
theorem kNeb {k s : Str} {Q : Bool → Prop} (c : decide (k = s) = false) (h : Q false) : Q (decide (V.str k = V.str s)) := by
  rw [strEq, c]
  exact h
def RowOk : Row → Prop
  | .even n => 0 < n
  | _ => True
def spLengthOf (K : PySem.W.Frag) : Sp := fun vs H Q _ => ∃ v r c b, vs = [v, .int c, .bl b] ∧ RowV K H v r ∧ RowOk r ∧ Q (.int (rsize r c b)) H
abbrev sLengthOf : Stmt := topS 41
theorem scLengthOf : FnScope ["row", "begin", "is_far"] ["row", "begin", "is_far"] (defScope sLengthOf) := ⟨rfl, rfl, rfl, by decide +kernel, rfl, by decide +kernel, by decide +kernel⟩
section
variable {P : Program} {w : World} {K : PySem.W.Frag} {mg : Str → Option Value} {base : Heap}
theorem ok_lengthOf {f : Addr} {fd : FuncData} (F : Fun K "length_of" "length_of" sLengthOf f fd) (T : Bi mg) : FnOk P w K mg base CX0 1 f fd ["row", "begin", "is_far"] (spLengthOf K) := by
  refine F.ok scLengthOf (fun vs H Q E h => ?_) (fun cdv A outer s H vs Q E hr h => ?_)
  · obtain ⟨v, r, c, b, rfl, _⟩ := h
    rfl
  · obtain ⟨v, r, c, b, rfl, hv, hk, q⟩ := h
    refine ⟨_, (pss_cons (ps_if (pt_cmpR op_eq (pe_ix ix_tup (pv 0) pe_int (fun _ _ => rfl)) pe_str (nomark _)) (pss_one (ps_ret (pe_callB call_len_seq (by rfl) T.len (by decide +kernel) (pa_cons (pe_ix ix_tup (pv 0) pe_int (fun _ _ => rfl)) pa_nil)))) pss_nil)
      (pss_cons (ps_if (pt_cmpR op_eq (pe_ix ix_tup (pv 0) pe_int (fun _ _ => rfl)) pe_str (nomark _)) (pss_one (ps_ret (pe_op op_mod (pe_un un_neg (pv 1)) (pe_ix ix_tup (pv 0) pe_int (fun _ _ => rfl))))) pss_nil)
      (pss_cons (ps_if (pt_cmpR op_eq (pe_ix ix_tup (pv 0) pe_int (fun _ _ => rfl)) pe_str (nomark _)) (pss_one (ps_ret (pe_ifExp (pt_val (pv 2)) pe_int pe_int))) pss_nil)
      (pss_one (ps_ret pe_int))))), ?_⟩
    cases r with
    | words n =>
      obtain ⟨a, d, rfl, h2, xs, h3, h4⟩ := hv
      refine ⟨_, rfl, a, _, _, _, rfl, rfl, h2, at_of (i := 0) rfl, rfl, _, rfl, kEq (by decide +kernel) ?_⟩
      refine ⟨_, rfl, a, _, _, _, rfl, rfl, h2, at_of (i := 1) rfl, d, xs, rfl, h3, ?_⟩
      rw [h4]
      exact q
    | label z =>
      obtain ⟨a, rfl, h2⟩ := hv
      refine ⟨_, rfl, a, _, _, _, rfl, rfl, h2, at_of (i := 0) rfl, rfl, _, rfl, kNe (by decide +kernel) ?_⟩
      refine ⟨_, rfl, a, _, _, _, rfl, rfl, h2, at_of (i := 0) rfl, rfl, _, rfl, kNe (by decide +kernel) ?_⟩
      refine ⟨_, rfl, a, _, _, _, rfl, rfl, h2, at_of (i := 0) rfl, rfl, _, rfl, kNe (by decide +kernel) ?_⟩
      exact q
    | even n =>
      obtain ⟨a, rfl, h2⟩ := hv
      refine ⟨_, rfl, a, _, _, _, rfl, rfl, h2, at_of (i := 0) rfl, rfl, _, rfl, kNe (by decide +kernel) ?_⟩
      refine ⟨_, rfl, a, _, _, _, rfl, rfl, h2, at_of (i := 0) rfl, rfl, _, rfl, kEq (by decide +kernel) ?_⟩
      exact ⟨_, rfl, _, rfl, _, rfl, a, _, _, _, rfl, rfl, h2, at_of (i := 1) rfl, _, _, rfl, rfl, hk, q⟩
    | branch z n m =>
      obtain ⟨a, rfl, h2⟩ := hv
      refine ⟨_, rfl, a, _, _, _, rfl, rfl, h2, at_of (i := 0) rfl, rfl, _, rfl, kNe (by decide +kernel) ?_⟩
      refine ⟨_, rfl, a, _, _, _, rfl, rfl, h2, at_of (i := 0) rfl, rfl, _, rfl, kNe (by decide +kernel) ?_⟩
      refine ⟨_, rfl, a, _, _, _, rfl, rfl, h2, at_of (i := 0) rfl, rfl, _, rfl, kEq (by decide +kernel) ?_⟩
      refine ⟨_, rfl, _, rfl, ?_⟩
      cases b with
      | true => exact iteT q
      | false => exact iteF q
end

theorem small1000 {n : Nat} (h : n ≤ 1000) : n < sizeLine := Nat.lt_of_le_of_lt h (by decide)
theorem same_upd {H H' : Hp} {p : Addr} {o : HO} (e : Same H H') (hp : H p = none) : Same H (upd H' p o) := fun b u hb => by
  rw [upd_ne (ne_of_none hb hp)]
  exact e _ _ hb
/-- the offsets of the first rows -/
def offTo (f : Int → Bool) (rs : List Row) (i : Nat) : List V := (List.range (i + 1)).map fun j => V.int (off f rs j)
theorem offTo_succ (f : Int → Bool) (rs : List Row) (i : Nat) : offTo f rs (i + 1) = offTo f rs i ++ [V.int (off f rs (i + 1))] := by
  unfold offTo
  rw [List.range_succ, List.map_append]
  rfl
theorem offTo_len (f : Int → Bool) (rs : List Row) (i : Nat) : (offTo f rs i).length = i + 1 := by
  unfold offTo
  rw [List.length_map, List.length_range]
theorem offTo_last (f : Int → Bool) (rs : List Row) (i : Nat) : atI (offTo f rs i) (-1) = some (.int (off f rs i)) := by
  unfold offTo
  rw [List.range_succ, List.map_append]
  exact at_last
theorem offTo_at {f : Int → Bool} {rs : List Row} {i j : Nat} (h : j ≤ i) : atI (offTo f rs i) (j : Nat) = some (.int (off f rs j)) := by
  refine at_of ?_
  unfold offTo
  rw [List.getElem?_map, List.getElem?_range (by omega)]
  rfl
theorem off_succ {f : Int → Bool} {rs : List Row} {i : Nat} {r : Row} (h : rs[i]? = some r) : off f rs (i + 1) = off f rs i + rsize r (off f rs i) (f (i : Nat)) := by
  show off f rs i + _ = _
  rw [h]
def spMeasured (K : PySem.W.Frag) : Sp := fun vs H Q _ => ∃ (t l : Addr) (xs : List V) (rs : List Row) (ns : List Int), vs = [.ref t, .ref l] ∧ SqT K H t xs ∧ RowsV K H xs rs ∧ (∀ r ∈ rs, RowOk r) ∧ rs.length ≤ 900 ∧ (SqL K H l (ns.map V.int) ∨ SqT K H l (ns.map V.int)) ∧
  ∀ H' p, Same H H' → H p = none → H' p = some (.lst (offTo (mem ns) rs rs.length)) → Q (.ref p) H'
abbrev sMeasured : Stmt := topS 42
theorem scMeasured : FnScope ["rows", "far", "found", "index", "row"] ["rows", "far"] (defScope sMeasured) := ⟨rfl, rfl, rfl, by decide +kernel, rfl, by decide +kernel, by decide +kernel⟩
section
variable {P : Program} {w : World} {K : PySem.W.Frag} {mg : Str → Option Value} {base : Heap}
theorem ok_measured {f : Addr} {fd : FuncData} (F : Fun K "measured" "measured" sMeasured f fd) (T : Bi mg) (G : Has P w K mg base CX0 1 "length_of" ["row", "begin", "is_far"] (spLengthOf K)) : FnOk P w K mg base CX0 2 f fd ["rows", "far"] (spMeasured K) := by
  refine F.ok scMeasured (fun vs H Q E h => ?_) (fun cdv A outer s H vs Q E hr h => ?_)
  · obtain ⟨t, l, xs, rs, ns, rfl, _⟩ := h
    rfl
  · obtain ⟨t, l, xs, rs, ns, rfl, ht, hrs, hok, hlen, hl, q⟩ := h
    refine ⟨_, (pss_cons (ps_set (i := 2) scMeasured.nd rfl (.inl rfl) (pe_lst (pa_cons pe_int pa_nil)))
      (pss_cons (ps_for PassesOwn.never rfl (pi_enumT (by rfl) T.enumerate (pa_cons (pv 0) pa_nil)) (pg_tup rfl (pgs_cons (pg_name (i := 3) scMeasured.nd rfl (.inl rfl)) (pgs_cons (pg_name (i := 4) scMeasured.nd rfl (.inl rfl)) pgs_nil))) (pss_one (ps_expr (pe_bm PySem.F.plainAttrs_list PySem.F.slot_list_append PySem.F.type_list_append mt_append (pv 2) (pa_cons (pe_op op_add (pe_ix ix_list (pv 2) (pe_un un_neg pe_int) (fun _ _ => rfl)) (pe_callH G hr (by rfl) pass0 (pa_cons (pv 4) (pa_cons (pe_ix ix_list (pv 2) (pe_un un_neg pe_int) (fun _ _ => rfl)) (pa_cons (pe_cmpR op_in_seq (pv 3) (pv 1) (by rfl)) pa_nil))))) pa_nil)))))
      (pss_one (ps_ret (pv 2))))), ?_⟩
    refine ⟨(by show 1 ≤ sizeLine; decide), fun L hL => ?_⟩
    refine ⟨_, rfl, t, xs, rfl, sqT_same (same_new hL) ht, ?_⟩
    have lx := rowsV_len hrs
    refine for_it walk_enumT (fun i σ H4 => ∃ (p u : Option V), σ = [some (.ref t), some (.ref l), some (.ref L), p, u] ∧ Same H H4 ∧ H4 L = some (.lst (offTo (mem ns) rs i))) ⟨none, none, rfl, same_new hL, upd_same⟩ (fun i σ H4 _ ⟨_, _, _, sm, _⟩ => sqT_same sm ht) ?_ ?_
    · rintro i x σ H4 H4' hi ⟨p, u, rfl, sm, hL4⟩ ⟨TT, x', y, rfl, hT, rfl, hx', hy⟩
      cases hx'
      have sm5 : Same H4 (upd H4 TT (.tup [.int (i : Nat), y])) := same_new hT
      obtain ⟨r, hri, hrv⟩ := rowsV_get hrs hy
      have hrv5 := rowV_same (sm.trans sm5) hrv
      have hL5 := sm5 _ _ hL4
      have hm : r ∈ rs := List.mem_of_getElem? hri
      have hi' : i < rs.length := by omega
      refine ⟨TT, _, rfl, SqT.of upd_same, rfl, _, _, rfl, _, _, rfl, rfl, ?_⟩
      refine ⟨_, rfl, .inl ⟨rfl, _, SqL.of hL5⟩, ?_⟩
      refine ⟨_, rfl, _, rfl, L, _, _, _, rfl, rfl, SqL.of hL5, offTo_last _ _ _, ?_⟩
      refine ⟨_, rfl, _, rfl, _, rfl, L, _, _, _, rfl, rfl, SqL.of hL5, offTo_last _ _ _, _, rfl, _, rfl, l, _, rfl, hl.imp (sqL_same (sm.trans sm5)) (sqT_same (sm.trans sm5)), rfl, flat_ints ns, ?_⟩
      rw [inV_ints]
      refine ⟨y, r, _, _, rfl, hrv5, hok r hm, _, _, rfl, rfl, ?_⟩
      refine ⟨L, _, _, rfl, rfl, hL5, ?_, _, _, rfl, ?_, ?_⟩
      · rw [offTo_len]
        exact small1000 (by omega)
      · exact same_upd (sm.trans sm5) hL
      · rw [upd_same, offTo_succ, off_succ hri]
        rfl
    · rintro σ H4 ⟨p, u, rfl, sm, hL4⟩
      rw [lx] at hL4
      exact ⟨_, rfl, q H4 L sm hL hL4⟩
end

/-- a dict comprehension over any walk -/
theorem dc_it {J : It} {n : Nat} {G : Hp → Prop} {Y : Nat → Hp → V → Hp → Prop} (w : Walk J n G Y) {g : TG} {tt : TT} {tk tv : TE} {vs : List Nat} {σ : L2.St} {H1 : Hp} {D : Addr} {Qd : Hp → Prop} (Pv : Nat → Hp → Prop) (h0 : Pv 0 (upd H1 D (.dK []))) (hG : ∀ i H, i ≤ n → Pv i H → G H)
    (hs : ∀ i x H H', i < n → Pv i H → Y i H x H' → g x (wipe σ vs) H' fun σ2 H2 => wipe σ2 vs = wipe σ vs ∧ tt σ2 H2 fun b H3 =>
      if b = true then tk σ2 H3 fun y H4 => tv σ2 H4 fun z H5 => ∃ kvs k, y = kV k ∧ H5 D = some (.dK kvs) ∧ kvs.length < sizeLine ∧ Pv (i + 1) (upd H5 D (.dK (putK kvs k z))) else Pv (i + 1) H3) (hd : ∀ H, Pv n H → Qd H) :
    ∃ W : Nat → Nat → Hp → Prop, (∃ m, W 0 m (upd H1 D (.dK []))) ∧ ∀ i m H, W i m H →
      (J.stop i H ∧ Qd H) ∨ (J.go i H ∧ ∃ Nx : Hp → Prop, (∀ H', Nx H' → ∃ m', m' < m ∧ W (i + 1) m' H') ∧ ∀ x H', J.yld i H x H' → g x (wipe σ vs) H' fun σ2 H2 => wipe σ2 vs = wipe σ vs ∧ tt σ2 H2 fun b H3 =>
        if b = true then tk σ2 H3 fun y H4 => tv σ2 H4 fun z H5 => ∃ kvs k, y = kV k ∧ H5 D = some (.dK kvs) ∧ kvs.length < sizeLine ∧ Nx (upd H5 D (.dK (putK kvs k z))) else Nx H3) := by
  refine ⟨fun i m H => m = n - i ∧ i ≤ n ∧ Pv i H, ⟨n, rfl, Nat.zero_le _, h0⟩, fun i m H hW => ?_⟩
  obtain ⟨rfl, hi, p⟩ := hW
  have q := hG i H hi p
  rcases Nat.lt_or_eq_of_le hi with lt | rfl
  · exact .inr ⟨w.goes i H lt q, Pv (i + 1), fun H' p' => ⟨n - (i + 1), by omega, rfl, lt, p'⟩, fun x H' y => hs i x H H' lt p (w.yields i H x H' lt q y)⟩
  · exact .inl ⟨w.stops H q, hd H p⟩
def labR : Row → Option Str
  | .label s => some s
  | _ => none
theorem labOf_at {rs : List Row} {i : Nat} {r : Row} (h : rs[i]? = some r) : labOf rs i = labR r := by
  unfold labOf labR
  rw [h]
  cases r <;> rfl
/-- terms that are given by hand within comprehensions -/
abbrev ixT (K : PySem.W.Frag) (i : Nat) (n : Int) : TE := tOp (rIxT K) (tVar i) (tC (.int n))
abbrev row0Is (K : PySem.W.Frag) (i : Nat) (s : Str) : TT := tTest (tOp rEq (ixT K i 0) (tC (.str s)))
def spLabelsIn (K : PySem.W.Frag) : Sp := fun vs H Q _ => ∃ (t : Addr) (xs : List V) (rs : List Row), vs = [.ref t] ∧ SqT K H t xs ∧ RowsV K H xs rs ∧ rs.length ≤ 900 ∧ ∀ H' p, Same H H' → H p = none → H' p = some (.dK (spD rs rs.length)) → Q (.ref p) H'
abbrev sLabelsIn : Stmt := topS 43
theorem scLabelsIn : FnScope ["rows", "index", "row"] ["rows"] (defScope sLabelsIn) := ⟨rfl, rfl, rfl, by decide +kernel, rfl, by decide +kernel, by decide +kernel⟩
section
variable {P : Program} {w : World} {K : PySem.W.Frag} {mg : Str → Option Value} {base : Heap}
theorem ok_labelsIn {f : Addr} {fd : FuncData} (F : Fun K "labels_in" "labels_in" sLabelsIn f fd) (T : Bi mg) : FnOk P w K mg base CX0 1 f fd ["rows"] (spLabelsIn K) := by
  refine F.ok scLabelsIn (fun vs H Q E h => ?_) (fun cdv A outer s H vs Q E hr h => ?_)
  · obtain ⟨t, xs, rs, rfl, _⟩ := h
    rfl
  · obtain ⟨t, xs, rs, rfl, ht, hrs, hlen, q⟩ := h
    refine ⟨_, pss_one (ps_ret (pe_dc (own := [("index", 1), ("row", 2)]) (g := gTup K 2 (gCons (gName 1) (gCons (gName 2) gNil))) (tt := row0Is K 2 "label") (tk := ixT K 2 1) (tv := tVar 1) rfl scLabelsIn.nd (pi_enumT (by rfl) T.enumerate (pa_cons (pv 0) pa_nil)) (blkOk_by (N := ["rows", "index", "row"]) (sc := defScope sLabelsIn) (by decide +kernel))
      (fun _ _ _ _ _ => (pg_tup rfl (pgs_cons (pg_name (i := 1) scLabelsIn.nd rfl (.inl rfl) (.inr rfl)) (pgs_cons (pg_name (i := 2) scLabelsIn.nd rfl (.inl rfl) (.inr rfl)) pgs_nil)))) (fun _ _ _ _ _ => pts_one (pt_cmpR op_eq (pe_ix ix_tup (pv 2) pe_int (fun _ _ => rfl)) pe_str (nomark _))) (fun _ _ _ _ _ => pe_ix ix_tup (pv 2) pe_int (fun _ _ => rfl)) (fun _ _ _ _ _ => pv 1))), ?_⟩
    refine ⟨_, rfl, t, xs, rfl, ht, fun D hD => ?_⟩
    have lx := rowsV_len hrs
    refine dc_it walk_enumT (fun i H4 => Same H H4 ∧ H4 D = some (.dK (spD rs i))) ⟨same_new hD, upd_same⟩ (fun i H4 _ ⟨sm, _⟩ => sqT_same sm ht) ?_ ?_
    · rintro i x H4 H4' hi ⟨sm, hD4⟩ ⟨TT, x', y, rfl, hT, rfl, hx', hy⟩
      cases hx'
      have sm5 : Same H4 (upd H4 TT (.tup [.int (i : Nat), y])) := same_new hT
      obtain ⟨r, hri, hrv⟩ := rowsV_get hrs hy
      have hrv5 := rowV_same (sm.trans sm5) hrv
      have hD5 := sm5 _ _ hD4
      have hi' : i < rs.length := by omega
      refine ⟨TT, _, rfl, SqT.of upd_same, rfl, _, _, rfl, _, _, rfl, rfl, rfl, ?_⟩
      have el := labOf_at hri
      have key : ∀ {b : Bool} {A : Prop}, b = false → el = el → (labOf rs i = none) → ((if b = true then A else (Same H (upd H4 TT (.tup [.int (i : Nat), y])) ∧ (upd H4 TT (.tup [.int (i : Nat), y])) D = some (.dK (spD rs (i + 1)))))) := by
        intro b A hb _ hn
        rw [hb]
        refine iteF ⟨sm.trans sm5, ?_⟩
        unfold spD
        rw [hn]
        exact hD5
      cases r with
      | words n =>
        obtain ⟨a, d, rfl, h2, _⟩ := hrv5
        exact ⟨_, rfl, a, _, _, _, rfl, rfl, h2, at_of (i := 0) rfl, rfl, _, rfl, key (by rw [strEq]; decide +kernel) rfl el⟩
      | even n =>
        obtain ⟨a, rfl, h2⟩ := hrv5
        exact ⟨_, rfl, a, _, _, _, rfl, rfl, h2, at_of (i := 0) rfl, rfl, _, rfl, key (by rw [strEq]; decide +kernel) rfl el⟩
      | branch c n m =>
        obtain ⟨a, rfl, h2⟩ := hrv5
        exact ⟨_, rfl, a, _, _, _, rfl, rfl, h2, at_of (i := 0) rfl, rfl, _, rfl, key (by rw [strEq]; decide +kernel) rfl el⟩
      | label z =>
        obtain ⟨a, rfl, h2⟩ := hrv5
        refine ⟨_, rfl, a, _, _, _, rfl, rfl, h2, at_of (i := 0) rfl, rfl, _, rfl, kEq (by decide +kernel) ?_⟩
        refine ⟨_, rfl, a, _, _, _, rfl, rfl, h2, at_of (i := 1) rfl, _, rfl, spD rs i, Sum.inr z, rfl, hD5, ?_, ?_, ?_⟩
        · have := spD_len rs i
          exact small1000 (by omega)
        · exact same_upd (sm.trans sm5) hD
        · rw [upd_same]
          have e2 : spD rs (i + 1) = putK (spD rs i) (Sum.inr z) (.int (i : Nat)) := by
            show (match labOf rs i with | some s => putK (spD rs i) (Sum.inr s) (.int (i : Nat)) | none => spD rs i) = _
            rw [show labOf rs i = some z from el]
          rw [e2]
    · rintro H4 ⟨sm, hD4⟩
      rw [lx] at hD4
      exact q H4 D sm hD hD4
end

abbrev E00 : XK := fun _ _ _ => False
def spIsTooLong : Sp := fun vs H Q _ => ∃ wy : Int, vs = [.int wy] ∧ Q (.bl (tooL wy)) H
def spWayIn (K : PySem.W.Frag) : Sp := fun vs H Q _ => ∃ (d l : Addr) (kvs : List (Key × V)) (os : List V) (k j a b : Int), vs = [.ref d, .ref l, .int k] ∧ Rd H d (.dK kvs) ∧ valV kvs (Sum.inl k) = some (.int j) ∧ SqL K H l os ∧ atI os j = some (.int a) ∧ atI os k = some (.int b) ∧ Q (.int (a - b)) H
def mapD (g : Nat → V) (ks : List Nat) : List (Key × V) := ks.map fun (k : Nat) => (Sum.inl ((k : Nat) : Int), g k)
theorem mapD_len (g : Nat → V) (ks : List Nat) : (mapD g ks).length = ks.length := List.length_map ..
theorem mapD_val (g : Nat → V) (k : Nat) : ∀ ks : List Nat, valV (mapD g ks) (Sum.inl (k : Int)) = if k ∈ ks then some (g k) else none
  | [] => rfl
  | j :: ks => by
    show valV ((Sum.inl (j : Int), g j) :: mapD g ks) _ = _
    by_cases h : j = k
    · subst h
      rw [valV_pos rfl]
      simp
    · rw [valV_neg (by intro z; exact h (by have := Sum.inl.inj z; omega)), mapD_val g k ks]
      have h2 : ¬ k = j := fun z => h z.symm
      simp [List.mem_cons, h2]
def aimD (rs : List Row) : List (Key × V) := mapD (fun k => .int (((aim rs k).getD 0 : Nat) : Int)) (inn rs)
def spTooLong (K : PySem.W.Frag) : Sp := fun vs H Q _ => ∃ (t d l : Addr) (xs : List V) (rs : List Row) (ns : List Int), vs = [.ref t, .ref d, .ref l] ∧ SqT K H t xs ∧ RowsV K H xs rs ∧ (∀ r ∈ rs, RowOk r) ∧ rs.length ≤ 900 ∧ H d = some (.dK (aimD rs)) ∧ (SqL K H l (ns.map V.int) ∨ SqT K H l (ns.map V.int)) ∧
  ∀ H' p, Same H H' → H p = none → H' p = some (.lst (nats (long (mem ns) rs))) → Q (.ref p) H'
abbrev sIsTooLong : Stmt := topS 44
abbrev sWayIn : Stmt := topS 48
abbrev sTooLong : Stmt := topS 49
theorem scIsTooLong : FnScope ["way"] ["way"] (defScope sIsTooLong) := ⟨rfl, rfl, rfl, by decide +kernel, rfl, by decide +kernel, by decide +kernel⟩
theorem scWayIn : FnScope ["aims", "offsets", "index"] ["aims", "offsets", "index"] (defScope sWayIn) := ⟨rfl, rfl, rfl, by decide +kernel, rfl, by decide +kernel, by decide +kernel⟩
theorem scTooLong : FnScope ["parts", "aims", "far", "offsets", "index"] ["parts", "aims", "far"] (defScope sTooLong) := ⟨rfl, rfl, rfl, by decide +kernel, rfl, by decide +kernel, by decide +kernel⟩
theorem mem_lt {rs : List Row} {k : Nat} (h : k ∈ inn rs) : k < rs.length ∧ ∃ j, aim rs k = some j ∧ j < rs.length := by
  unfold inn innTo at h
  obtain ⟨h1, h2⟩ := List.mem_filter.mp h
  obtain ⟨j, e⟩ := Option.isSome_iff_exists.mp h2
  exact ⟨List.mem_range.mp h1, j, e, (aim_lt e).1⟩
theorem inn_len (rs : List Row) : (inn rs).length ≤ rs.length := by
  unfold inn innTo
  refine Nat.le_trans (List.length_filter_le _ _) ?_
  rw [List.length_range]
  exact Nat.le_refl _
/-- a dict that a walk has locked, free again -/
theorem same_unlock {H H1 : Hp} {d D : Addr} {od : Obj} {u : HO} (hd : H d = some u) (hD : H D = none) (kp : ∀ b o, b ≠ D → upd H d (.frz od u) b = some o → H1 b = some o) : Same H (upd H1 d u) := fun b o e => by
  by_cases hb : b = d
  · rw [hb] at e ⊢
    rw [upd_same]
    exact hd.symm.trans e
  · rw [upd_ne hb]
    refine kp b o (ne_of_none e hD) ?_
    rw [upd_ne hb]
    exact e
section
variable {P : Program} {w : World} {K : PySem.W.Frag} {mg : Str → Option Value} {base : Heap}
theorem ok_isTooLong {f : Addr} {fd : FuncData} {t1 t2 : Tok} (F : Fun K "is_too_long" "is_too_long" sIsTooLong f fd) (g1 : mg "LOWEST" = some (.int (-256) t1)) (g2 : mg "HIGHEST" = some (.int 255 t2)) : FnOk P w K mg base CX0 1 f fd ["way"] spIsTooLong := by
  refine F.ok scIsTooLong (fun vs H Q E h => ?_) (fun cdv A outer s H vs Q E hr h => ?_)
  · obtain ⟨wy, rfl, _⟩ := h
    rfl
  · obtain ⟨wy, rfl, q⟩ := h
    refine ⟨_, pss_one (ps_ret (pe_not (pe_chain op_le op_le (pe_glob (v := .int (-256)) rfl g1 ⟨_, rfl⟩) (pv 0) (pe_glob (v := .int 255) rfl g2 ⟨_, rfl⟩)))), ?_⟩
    refine ⟨_, rfl, _, _, rfl, rfl, _, rfl, ?_⟩
    have e : tooL wy = !(decide (-256 ≤ wy) && decide (wy ≤ 255)) := by
      unfold tooL
      by_cases c1 : -256 ≤ wy <;> by_cases c2 : wy ≤ 255 <;> simp [c1, c2] <;> omega
    rw [e] at q
    cases c1 : decide (-256 ≤ wy) with
    | true =>
      rw [c1] at q
      exact iteT ⟨_, _, rfl, rfl, _, rfl, q⟩
    | false =>
      rw [c1] at q
      exact iteF ⟨_, rfl, q⟩
theorem ok_wayIn {f : Addr} {fd : FuncData} (F : Fun K "way_in" "way_in" sWayIn f fd) : FnOk P w K mg base CX0 1 f fd ["aims", "offsets", "index"] (spWayIn K) := by
  refine F.ok scWayIn (fun vs H Q E h => ?_) (fun cdv A outer s H vs Q E hr h => ?_)
  · obtain ⟨d, l, kvs, os, k, j, a, b, rfl, _⟩ := h
    rfl
  · obtain ⟨d, l, kvs, os, k, j, a, b, rfl, hd, hk, hl, ha, hb, q⟩ := h
    have hu := hu_of hr
    refine ⟨_, pss_one (ps_ret (pe_op op_sub (pe_ix ix_list (pv 1) (pe_dget hu (pv 0) (pv 2) (fun _ _ => rfl)) (fun _ _ => rfl)) (pe_ix ix_list (pv 1) (pv 2) (fun _ _ => rfl)))), ?_⟩
    refine ⟨_, rfl, _, rfl, _, rfl, d, _, rfl, .inl ⟨kvs, Sum.inl k, hd, rfl, hk.symm⟩, l, os, _, _, rfl, rfl, hl, ha, ?_⟩
    exact ⟨_, rfl, _, rfl, l, os, _, _, rfl, rfl, hl, hb, _, _, rfl, rfl, q⟩
theorem ok_tooLong {f : Addr} {fd : FuncData} (F : Fun K "too_long_ones" "too_long_ones" sTooLong f fd) (G : Has P w K mg base CX0 2 "measured" ["rows", "far"] (spMeasured K)) (G2 : Has P w K mg base CX0 2 "is_too_long" ["way"] spIsTooLong)
    (G3 : Has P w K mg base CX0 2 "way_in" ["aims", "offsets", "index"] (spWayIn K)) : FnOk P w K mg base CX0 3 f fd ["parts", "aims", "far"] (spTooLong K) := by
  refine F.ok scTooLong (fun vs H Q E h => ?_) (fun cdv A outer s H vs Q E hr h => ?_)
  · obtain ⟨t, d, l, xs, rs, ns, rfl, _⟩ := h
    rfl
  · obtain ⟨t, d, l, xs, rs, ns, rfl, ht, hrs, hok, hlen, hd, hl, q⟩ := h
    refine ⟨_, (pss_cons (ps_set (i := 3) scTooLong.nd rfl (.inr rfl) (pe_callH G hr (by rfl) pass0 (pa_cons (pv 0) (pa_cons (pv 2) pa_nil))))
      (pss_one (ps_ret (pe_lock (pe_lc (own := [("index", 4)]) (g := gName 4) (tt := tAnd (tTest (tOp (rIn K true) (tVar 4) (tVar 2))) (tB (tCall spIsTooLong [] E00 (tCons (tCall (spWayIn K) [] E00 (tCons (tVar 1) (tCons (tVar 3) (tCons (tVar 4) tNil)))) tNil)))) rfl scTooLong.nd (pi_keys (pv 1)) (blkOk_by (N := ["parts", "aims", "far", "offsets", "index"]) (sc := defScope sTooLong) (by decide +kernel)) (fun _ _ _ _ _ => pg_name (i := 4) scTooLong.nd rfl (.inl rfl))
        (fun _ _ _ _ _ => pts_one (PW.pt (pw_and (pt_cmpR op_notIn_seq (pv 4) (pv 2) (by rfl)) (pw_and1 (pt_val (pe_callH G2 hr (by rfl) pass0 (pa_cons (pe_callH G3 hr (by rfl) pass0 (pa_cons (pv 1) (pa_cons (pv 3) (pa_cons (pv 4) pa_nil)))) pa_nil))))))) (fun _ _ _ _ _ => (pv 4))))))), ?_⟩
    refine ⟨_, rfl, _, rfl, t, l, xs, rs, ns, rfl, ht, hrs, hok, hlen, hl, fun H0 O s0 hO0 hO => ?_⟩
    have hd0 := s0 _ _ hd
    refine ⟨d, _, hd0, trivial, fun od => ⟨_, rfl, d, od, rfl, .inl ⟨_, upd_same, fun D hD => ?_⟩⟩⟩
    have hDd : D ≠ d := by
      intro z
      rw [z, upd_same] at hD
      cases hD
    have hDn : H0 D = none := by
      rw [upd_ne hDd] at hD
      exact hD
    have hOd : O ≠ d := ne_of hO hd0 (by intro z; cases z)
    have hOD : O ≠ D := ne_of_none hO hDn
    refine lc_it walk_keys (fun i H1 => (∀ b o, b ≠ D → upd H0 d (.frz od (.dK (aimD rs))) b = some o → H1 b = some o) ∧ H1 D = some (.lst (nats (((inn rs).take i).filter (isLong (mem ns) rs)))))
      ⟨fun b o hb e => by rw [upd_ne hb]; exact e, upd_same⟩ (fun i H1 _ ⟨kp, _⟩ => kp _ _ hDd.symm upd_same) ?_ ?_
    · rintro i x H1 H1' hi ⟨kp, hD1⟩ ⟨rfl, k, v, hk, rfl⟩
      obtain ⟨kk, hkk, hk2⟩ : ∃ kk, (inn rs)[i]? = some kk ∧ (k, v) = (Sum.inl (kk : Int), V.int (((aim rs kk).getD 0 : Nat) : Int)) := by
        unfold aimD mapD at hk
        rw [List.getElem?_map] at hk
        cases e : (inn rs)[i]? with
        | none => rw [e] at hk; cases hk
        | some kk =>
          rw [e] at hk
          exact ⟨kk, rfl, (Option.some.inj hk).symm⟩
      cases hk2
      have hmem := List.mem_of_getElem? hkk
      obtain ⟨hlt, j, ej, hj⟩ := mem_lt hmem
      have hd1 : H1' d = some (.frz od (.dK (aimD rs))) := kp _ _ hDd.symm upd_same
      have hO1 : H1' O = some (.lst (offTo (mem ns) rs rs.length)) := kp _ _ hOD (by rw [upd_ne hOd]; exact hO)
      have keepR : ∀ {u : HO}, (∀ kv, u ≠ .dK kv) → Rd H0 l u → Rd H1' l u := fun {u} nd h => by
        rcases h with h | ⟨o, h⟩
        · refine .inl (kp _ _ (ne_of_none h hDn) ?_)
          rw [upd_ne (ne_of h hd0 (nd _))]
          exact h
        · refine .inr ⟨o, kp _ _ (ne_of_none h hDn) ?_⟩
          rw [upd_ne (ne_of h hd0 (by intro z; cases z))]
          exact h
      have hl1 : SqL K H1' l (ns.map V.int) ∨ SqT K H1' l (ns.map V.int) := by
        rcases hl with hl | hl
        · rcases sqL_same s0 hl with hq | hq
          · exact .inl (.inl (keepR (by intro kv z; cases z) hq))
          · exact .inl (.inr hq)
        · rcases sqT_same s0 hl with hq | hq
          · exact .inr (.inl (keepR (by intro kv z; cases z) hq))
          · exact .inr (.inr hq)
      have tk : (inn rs).take (i + 1) = (inn rs).take i ++ [kk] := by
        rw [List.take_add_one, hkk]
        rfl
      have end1 : isLong (mem ns) rs kk = true → ∃ acc, H1' D = some (.lst acc) ∧ acc.length < sizeLine ∧ ((∀ b o, b ≠ D → upd H0 d (.frz od (.dK (aimD rs))) b = some o → upd H1' D (.lst (acc ++ [V.int (kk : Int)])) b = some o) ∧ upd H1' D (.lst (acc ++ [V.int (kk : Int)])) D = some (.lst (nats (((inn rs).take (i + 1)).filter (isLong (mem ns) rs))))) := by
        intro hlg
        refine ⟨_, hD1, ?_, fun b o hb e => ?_, ?_⟩
        · rw [nats_len]
          have h1 : (((inn rs).take i).filter (isLong (mem ns) rs)).length ≤ ((inn rs).take i).length := List.length_filter_le _ _
          have h2 : ((inn rs).take i).length ≤ (inn rs).length := by rw [List.length_take]; omega
          have h3 := inn_len rs
          exact small1000 (by omega)
        · rw [upd_ne hb]
          exact kp b o hb e
        · rw [upd_same, tk, List.filter_append, nats_app]
          have z : [kk].filter (isLong (mem ns) rs) = [kk] := by simp [List.filter, hlg]
          rw [z]
          rfl
      have end0 : isLong (mem ns) rs kk = false → (∀ b o, b ≠ D → upd H0 d (.frz od (.dK (aimD rs))) b = some o → H1' b = some o) ∧ H1' D = some (.lst (nats (((inn rs).take (i + 1)).filter (isLong (mem ns) rs)))) := by
        intro hlg
        refine ⟨kp, ?_⟩
        rw [tk, List.filter_append]
        have z : [kk].filter (isLong (mem ns) rs) = [] := by simp [List.filter, hlg]
        rw [z, List.append_nil]
        exact hD1
      refine ⟨rfl, _, rfl, _, rfl, l, _, rfl, hl1, rfl, flat_ints ns, _, rfl, ?_⟩
      show if (!inV (.int (kk : Int)) (ns.map V.int)) = true then _ else _
      rw [inV_ints]
      have em : decide ((kk : Int) ∈ ns) = mem ns (kk : Int) := rfl
      rw [em]
      unfold isLong at end1 end0
      cases c : mem ns (kk : Int) with
      | true =>
        rw [c] at end0
        exact iteF (iteF (end0 rfl))
      | false =>
        rw [c] at end0 end1
        refine iteT ⟨_, rfl, _, rfl, _, rfl, d, O, aimD rs, offTo (mem ns) rs rs.length, (kk : Int), (j : Int), off (mem ns) rs j, off (mem ns) rs kk, rfl, .inr ⟨od, hd1⟩, ?_, SqL.of hO1, offTo_at (by omega), offTo_at (by omega), ?_⟩
        · unfold aimD
          rw [mapD_val, if_pos hmem, ej]
          rfl
        · refine ⟨_, rfl, _, rfl, ?_⟩
          have ew : way (mem ns) rs kk = off (mem ns) rs j - off (mem ns) rs kk := by
            unfold way
            rw [ej]
            rfl
          rw [← ew]
          cases c2 : tooL (way (mem ns) rs kk) with
          | true =>
            rw [c2] at end1
            exact iteT ⟨_, rfl, end1 rfl⟩
          | false =>
            rw [c2] at end0
            exact iteF (end0 rfl)
    · rintro H1 ⟨kp, hD1⟩
      have tl : (inn rs).take (aimD rs).length = inn rs := by
        unfold aimD
        rw [mapD_len]
        exact List.take_length
      rw [tl] at hD1
      have hd1 : H1 d = some (.frz od (.dK (aimD rs))) := kp _ _ hDd.symm upd_same
      refine ⟨hd1, q _ D (s0.trans (same_unlock hd0 hDn kp)) ?_ ?_⟩
      · cases e : H D with
        | none => rfl
        | some o => rw [s0 _ _ e] at hDn; cases hDn
      · rw [upd_ne hDd]
        exact hD1
end

/-- what a comprehension wants of a walk -/
def LcW (J : It) (g : TG) (tt : TT) (te : TE) (vs : List Nat) (σ : L2.St) (H1 : Hp) (D : Addr) (Qd : Hp → Prop) : Prop :=
  ∃ W : Nat → Nat → Hp → Prop, (∃ m, W 0 m (upd H1 D (.lst []))) ∧ ∀ i m H, W i m H → (J.stop i H ∧ Qd H) ∨ (J.go i H ∧ ∃ Nx : Hp → Prop, (∀ H', Nx H' → ∃ m', m' < m ∧ W (i + 1) m' H') ∧
    ∀ x H', J.yld i H x H' → g x (wipe σ vs) H' fun σ2 H2 => wipe σ2 vs = wipe σ vs ∧ tt σ2 H2 fun b H3 => if b = true then te σ2 H3 fun y H4 => ∃ acc, H4 D = some (.lst acc) ∧ acc.length < sizeLine ∧ Nx (upd H4 D (.lst (acc ++ [y]))) else Nx H3)
theorem walk_zipT {K : PySem.W.Frag} {a b : Addr} {xs ys : List V} {n : Nat} (hn : n = min xs.length ys.length) : Walk (RZ.ItzT K a b) n (fun H => SqT K H a xs ∧ SqT K H b ys) (YPair (fun i => xs[i]?) (fun i => ys[i]?)) := by
  subst hn
  refine ⟨fun i H hi q => ?_, fun H q => ⟨xs, ys, q.1, q.2, by omega⟩, fun i H v H' hi q y => ?_⟩
  · have h1 : i < xs.length := by omega
    have h2 : i < ys.length := by omega
    exact ⟨xs, ys, xs[i], ys[i], q.1, q.2, List.getElem?_eq_getElem h1, List.getElem?_eq_getElem h2⟩
  · obtain ⟨T, x, z, h1, h2, h3, h4, h5⟩ := y
    exact ⟨T, x, z, h1, h2, h3, h4 xs q.1, h5 ys q.2⟩
theorem cut_from {xs : List V} {r : Nat} (h : r ≤ xs.length) : cutV xs (some (r : Int)) none = xs.drop r := by
  unfold cutV
  rw [HT.sIx_none, HT.sIx_nat, Nat.min_eq_left h]
  rw [List.take_of_length_le (by rw [List.length_drop]; exact Nat.le_refl _)]
theorem cut_to {xs : List V} {r : Nat} (h : r ≤ xs.length) : cutV xs none (some (r : Int)) = xs.take r := by
  unfold cutV
  rw [HT.sIx_none, HT.sIx_nat, List.drop_zero, Nat.sub_zero, Nat.min_eq_left h]
theorem cut_1 (xs : List V) : cutV xs (some 1) none = xs.drop 1 := by
  cases xs with
  | nil => rfl
  | cons x xs => exact cut_from (r := 1) (by simp)
def SqE (K : PySem.W.Frag) (H : Hp) (a : Addr) (xs : List V) : Prop := SqL K H a xs ∨ SqT K H a xs
theorem sqE_same {K : PySem.W.Frag} {H H' : Hp} {a : Addr} {xs : List V} (e : Same H H') (h : SqE K H a xs) : SqE K H' a xs := h.imp (sqL_same e) (sqT_same e)
/-- whether a row ascends -/
def ascN (ns : List Int) (i : Nat) : List Bool := ((ns.zip (ns.drop 1)).take i).map fun p => decide (p.1 < p.2)
def ascB (ns : List Int) : Bool := (ascN ns ns.length).all id
def spAsc (K : PySem.W.Frag) : Sp := fun vs H Q _ => ∃ (a : Addr) (ns : List Int), vs = [.ref a] ∧ SqE K H a (ns.map V.int) ∧ ns.length ≤ 900 ∧ ∀ H', Same H H' → Q (.bl (ascB ns)) H'
abbrev sAsc : Stmt := topS 50
theorem scAsc : FnScope ["row", "one", "other"] ["row"] (defScope sAsc) := ⟨rfl, rfl, rfl, by decide +kernel, rfl, by decide +kernel, by decide +kernel⟩
abbrev g2 (K : PySem.W.Frag) (i j : Nat) : TG := gTup K 2 (gCons (gName i) (gCons (gName j) gNil))
section
variable {P : Program} {w : World} {K : PySem.W.Frag} {mg : Str → Option Value} {base : Heap}
theorem asc_core {J : It} {n : Nat} {G : Hp → Prop} {ns : List Int} {σ : L2.St} {H H1 : Hp} {D : Addr} {Q : VK} {x0 : Option V} (hσ : σ = [x0, none, none]) (hn : n = (ns.zip (ns.drop 1)).length)
    (wk : Walk J n G (YPair (fun i => (ns.map V.int)[i]?) (fun i => ((ns.map V.int).drop 1)[i]?))) (s1 : Same H H1) (hl : ns.length ≤ 900) (hG : ∀ H4, (∀ b o, b ≠ D → H1 b = some o → H4 b = some o) → G H4) (hD : H1 D = none)
    (q : ∀ H' p, Same H H' → H' p = some (.lst ((ascN ns ns.length).map V.bl)) → Q (.ref p) H') : LcW J (g2 K 1 2) tYes (tOp (rI0 fun i j => .bl (decide (i < j))) (tVar 1) (tVar 2)) [1, 2] σ H1 D (fun H' => Q (.ref D) H') := by
  subst hσ
  have zl : (ns.zip (ns.drop 1)).length ≤ ns.length := by
    rw [List.length_zip]
    omega
  refine lc_it wk (fun i H4 => (∀ b o, b ≠ D → H1 b = some o → H4 b = some o) ∧ H4 D = some (.lst ((ascN ns i).map V.bl))) ⟨fun b o hb e => by rw [upd_ne hb]; exact e, by rw [upd_same]; rfl⟩ (fun i H4 _ ⟨kp, _⟩ => hG H4 kp) ?_ ?_
  · rintro i x H4 H4' hi ⟨kp, hD4⟩ ⟨TT, x', y', rfl, hT, rfl, hx', hy'⟩
    have hi2 : i < (ns.zip (ns.drop 1)).length := by omega
    have hz : (ns.zip (ns.drop 1))[i]? = some (ns.zip (ns.drop 1))[i] := List.getElem?_eq_getElem hi2
    obtain ⟨z1, z2⟩ := List.getElem?_zip_eq_some.mp hz
    generalize hp : (ns.zip (ns.drop 1))[i] = p at hz z1 z2
    have e1 : x' = V.int p.1 := by
      have h' : (ns.map V.int)[i]? = some x' := hx'
      rw [List.getElem?_map, z1] at h'
      exact (Option.some.inj h').symm
    have e2 : y' = V.int p.2 := by
      have h' : ((ns.map V.int).drop 1)[i]? = some y' := hy'
      rw [← List.map_drop, List.getElem?_map, z2] at h'
      exact (Option.some.inj h').symm
    subst e1 e2
    have hTD : TT ≠ D := fun z => by rw [z, hD4] at hT; cases hT
    have nx : ascN ns (i + 1) = ascN ns i ++ [decide (p.1 < p.2)] := by
      unfold ascN
      rw [List.take_add_one, hz]
      simp
    refine ⟨TT, _, rfl, SqT.of upd_same, rfl, _, _, rfl, _, _, rfl, rfl, rfl, ?_⟩
    refine yes_go (iteT ⟨_, rfl, _, rfl, _, _, rfl, rfl, _, by rw [upd_ne hTD.symm]; exact hD4, ?_, fun b o hb e => ?_, ?_⟩)
    · rw [List.length_map]
      unfold ascN
      rw [List.length_map, List.length_take]
      exact small1000 (by omega)
    · rw [upd_ne hb]
      have k := kp b o hb e
      rw [upd_ne (ne_of_none k hT)]
      exact k
    · rw [upd_same, nx, List.map_append]
      rfl
  · rintro H4 ⟨kp, hD4⟩
    refine q H4 D (fun b o e => kp b o (ne_of_none (s1 _ _ e) hD) (s1 _ _ e)) ?_
    have e : ascN ns n = ascN ns ns.length := by
      unfold ascN
      rw [List.take_of_length_le (by omega), List.take_of_length_le (by omega)]
    rw [← e]
    exact hD4
theorem ok_asc {f : Addr} {fd : FuncData} (F : Fun K "is_ascending" "is_ascending" sAsc f fd) (T : Bi mg) : FnOk P w K mg base CX0 1 f fd ["row"] (spAsc K) := by
  refine F.ok scAsc (fun vs H Q E h => ?_) (fun cdv A outer s H vs Q E hr h => ?_)
  · obtain ⟨a, ns, rfl, _⟩ := h
    rfl
  · obtain ⟨a, ns, rfl, ha, hl, q⟩ := h
    refine ⟨_, pss_one (ps_ret (pe_callB (cr_all rfl) (by rfl) T.all (by decide +kernel) (pa_cons (pe_lc (own := [("one", 1), ("other", 2)]) (g := g2 K 1 2) (tt := tYes) rfl scAsc.nd (RZ.pi_zipA (by rfl) T.zip (pa_cons (pv 0) (pa_cons (pe_slice (SlR.or sl_list sl_tupA) (pv 0) (po_some pe_int) po_none) pa_nil))) (blkOk_by (N := ["row", "one", "other"]) (sc := defScope sAsc) (by decide +kernel))
      (fun _ _ _ _ _ => (pg_tup rfl (pgs_cons (pg_name (i := 1) scAsc.nd rfl (.inl rfl) (.inr rfl)) (pgs_cons (pg_name (i := 2) scAsc.nd rfl (.inl rfl) (.inr rfl)) pgs_nil)))) (fun _ _ _ _ _ => pts_nil) (fun _ _ _ _ _ => (pe_cmpR op_lt (pv 1) (pv 2) (nomark _)))) pa_nil))), ?_⟩
    have fin : ∀ H' p, Same H H' → H' p = some (.lst ((ascN ns ns.length).map V.bl)) → rAll K [.ref p] H' Q := fun H' p sm hp => ⟨p, _, rfl, SqL.of hp, q H' sm⟩
    have zn : ∀ ys : List V, ys = (ns.map V.int).drop 1 → (ns.zip (ns.drop 1)).length = min (ns.map V.int).length ys.length := by
      intro ys e
      rw [e, List.length_zip, List.length_map, List.length_drop, List.length_drop, List.length_map]
    rcases ha with ha | ha
    · refine ⟨_, rfl, _, rfl, 1, rfl, .inl ⟨a, _, rfl, ha, fun p hp => ?_⟩⟩
      rw [cut_1]
      have sp := same_new (o := .lst ((ns.map V.int).drop 1)) hp
      refine ⟨a, p, _, _, rfl, .inl ⟨sqL_same sp ha, SqL.of upd_same, fun D hD => ?_⟩⟩
      have pD : p ≠ D := fun z => by rw [z, upd_same] at hD; cases hD
      have hDn : H D = none := by
        rw [upd_ne pD.symm] at hD
        exact hD
      refine asc_core (H := H) (x0 := some (.ref a)) (Q := fun v H' => rAll K [v] H' Q) rfl rfl (walk_zip (zn _ rfl)) sp hl (fun H4 kp => ⟨?_, SqL.of (kp _ _ pD upd_same)⟩) hD fin
      exact sqL_same (fun b o e => kp b o (ne_of_none e hDn) (sp _ _ e)) ha
    · refine ⟨_, rfl, _, rfl, 1, rfl, .inr ⟨a, _, rfl, ha, fun hw => ?_, fun hw p hp => ?_⟩⟩
      · have z0 : (ns.map V.int).drop 1 = ns.map V.int := by
          cases ns with
          | nil => rfl
          | cons n ns =>
            have h0 := hw.1
            simp [HT.sIx] at h0
        refine ⟨a, a, _, _, rfl, .inr ⟨ha, (by rw [z0]; exact ha : SqT K H a ((ns.map V.int).drop 1)), fun D hD => ?_⟩⟩
        refine asc_core (H := H) (x0 := some (.ref a)) (Q := fun v H' => rAll K [v] H' Q) rfl rfl (walk_zipT (zn _ rfl)) (Same.refl H) hl (fun H4 kp => ?_) hD fin
        have k1 := sqT_same (fun b o e => kp b o (ne_of_none e hD) e) ha
        exact ⟨k1, by rw [z0]; exact k1⟩
      · rw [cut_1]
        have sp := same_new (o := .tup ((ns.map V.int).drop 1)) hp
        refine ⟨a, p, _, _, rfl, .inr ⟨sqT_same sp ha, SqT.of upd_same, fun D hD => ?_⟩⟩
        have pD : p ≠ D := fun z => by rw [z, upd_same] at hD; cases hD
        have hDn : H D = none := by
          rw [upd_ne pD.symm] at hD
          exact hD
        refine asc_core (H := H) (x0 := some (.ref a)) (Q := fun v H' => rAll K [v] H' Q) rfl rfl (walk_zipT (zn _ rfl)) sp hl (fun H4 kp => ⟨?_, SqT.of (kp _ _ pD upd_same)⟩) hD fin
        exact sqT_same (fun b o e => kp b o (ne_of_none e hDn) (sp _ _ e)) ha
end

def sPiece : Str := "piece"
def sName : Str := "name"
def sIn : Str := "in"
def rank (z : Str) : Option Int := if z = sPiece then some 0 else if z = sName then some 1 else if z = sIn then some 2 else none
/-- the dict RANKS of the text -/
structure Ranks (K : PySem.W.Frag) (w : World) (mg : Str → Option Value) (d : Addr) : Prop where
  g : mg "RANKS" = some (.ref d)
  kd : ∃ es n, KDict K w d es n
  has : ∀ z i, rank z = some i → ∃ t, PySem.W.nsIn K d z = some (some (.int i t))
  no : ∀ z, rank z = none → PySem.W.nsIn K d z = some none
def ofKey (k : Str) (o : PyData) : Option Key := if k = sIn then (match o with
    | .int i => if 1 ≤ i then some (.inl i) else none
    | _ => none) else (match o with
    | .str s => if isNmS s = true then some (.inr s) else none
    | _ => none)
def unkOf (k : Str) (o : PyData) : Option (List Key) := (rank k).bind fun _ => (ofKey k o).map fun z => [.inr k, z]
def readUnk : PyData → Option (List Key)
  | .tuple [.str k, o] => unkOf k o
  | _ => none
/-- texts in a pair are short -/
def shortP : PyData → Prop
  | .tuple [a, b] => shortS a ∧ shortS b
  | _ => True
def UnkV (H : Hp) (v : V) : Option (List Key) → Prop
  | none => v = .non
  | some u => ∃ a, v = .ref a ∧ H a = some (.tup (u.map kV))
def spReadUnk (K : PySem.W.Frag) : Sp := fun vs H Q _ => ∃ v d, vs = [v] ∧ Th K H v d ∧ (∀ xs, d ≠ .list xs) ∧ shortP d ∧ ∀ v' H', Same H H' → UnkV H' v' (readUnk d) → Q v' H'
abbrev sReadUnk : Stmt := topS 19
theorem scReadUnk : FnScope ["thing", "kind", "of", "right"] ["thing"] (defScope sReadUnk) := ⟨rfl, rfl, rfl, by decide +kernel, rfl, by decide +kernel, by decide +kernel⟩
theorem rank_in : rank sIn = some 2 := by decide +kernel
theorem eq_str (a b : Str) : decide (V.str a = V.str b) = decide (a = b) := by
  by_cases c : a = b
  · rw [c]; simp
  · rw [decide_eq_false c]
    exact decide_eq_false fun z => c (V.str.inj z)
theorem eq_int (a b : Int) : decide (V.int a = V.int b) = decide (a = b) := by
  by_cases c : a = b
  · rw [c]; simp
  · rw [decide_eq_false c]
    exact decide_eq_false fun z => c (V.int.inj z)
theorem th_tup {K : PySem.W.Frag} {H : Hp} {v : V} {ds : List PyData} (h : Th K H v (.tuple ds)) : ∃ a xs, v = .ref a ∧ SqT K H a xs ∧ DpAll K H xs ds := by
  cases h with
  | dat h =>
    cases h with
    | tup s t => exact ⟨_, _, rfl, s, t⟩
section
variable {P : Program} {w : World} {K : PySem.W.Frag} {mg : Str → Option Value} {base : Heap}
theorem ok_readUnk {f d0 : Addr} {fd : FuncData} (F : Fun K "read_unknown" "read_unknown" sReadUnk f fd) (T : Bi mg) (R : Ranks K w mg d0) (G1 : Has P w K mg base CX0 2 "is_row_of" ["thing", "many"] (spIsRowOf K))
    (G2 : Has P w K mg base CX0 2 "is_integer" ["thing"] (spIsInt K)) (G3 : Has P w K mg base CX0 2 "is_name" ["thing"] (spIsName K)) : FnOk P w K mg base CX0 3 f fd ["thing"] (spReadUnk K) := by
  refine F.ok scReadUnk (fun vs H Q E h => ?_) (fun cdv A outer s H vs Q E hr h => ?_)
  · obtain ⟨v, d, rfl, _⟩ := h
    rfl
  · obtain ⟨v, d, rfl, th, nl, sh, q⟩ := h
    obtain ⟨es, n, kd⟩ := R.kd
    refine ⟨_, (pss_cons (ps_if (pt_not (pt_val (pe_callH G1 hr (by rfl) pass0 (pa_cons (pv 0) (pa_cons pe_int pa_nil))))) (pss_one (ps_ret pe_non)) pss_nil)
      (pss_cons (ps_asg (pv 0) (pg_tup rfl (pgs_cons (pg_name (i := 1) scReadUnk.nd rfl (.inl rfl)) (pgs_cons (pg_name (i := 2) scReadUnk.nd rfl (.inl rfl)) pgs_nil))))
      (pss_cons (ps_if (PW.pt (pw_or (pt_not (pt_val (pe_callB call_isi (by rfl) T.isinstance (by decide +kernel) (pa_cons (pv 1) (pa_cons (pe_bltn (v := .ty "str") (by rfl) T.str (by decide +kernel) rfl) pa_nil))))) (pw_or1 (pt_cmpR (op_notIn_kd kd) (pv 1) (pe_glob (v := .ref d0) rfl R.g rfl) (by rfl))))) (pss_one (ps_ret pe_non)) pss_nil)
      (pss_cons (ps_if (pt_cmpR op_eq (pv 1) pe_str (nomark _)) (pss_one (ps_set (i := 3) scReadUnk.nd rfl (.inl rfl) (pe_and (pe_callH G2 hr (by rfl) pass0 (pa_cons (pv 2) pa_nil)) (pe_one (pe_cmpR op_ge (pv 2) pe_int (nomark _)))))) (pss_one (ps_set (i := 3) scReadUnk.nd rfl (.inl rfl) (pe_callH G3 hr (by rfl) pass0 (pa_cons (pv 2) pa_nil)))))
      (pss_one (ps_ret (pe_ifExp (pt_val (pv 3)) (pe_tup (pa_cons (pv 1) (pa_cons (pv 2) pa_nil))) pe_non))))))), ?_⟩
    refine ⟨_, rfl, v, d, 2, rfl, th, fun H1 sm1 => ⟨_, rfl, ?_⟩⟩
    have th1 := th_same sm1 th
    cases e : isRof d 2 with
    | false =>
      refine iteT ?_
      refine q _ _ sm1 ?_
      have z : readUnk d = none := by
        unfold readUnk
        split
        · rename_i k o
          revert e
          simp [isRof, items]
        · rfl
      rw [z]
      rfl
    | true =>
      refine iteF ?_
      obtain ⟨x, y, rfl⟩ : ∃ x y, d = .tuple [x, y] := by
        unfold isRof at e
        cases d with
        | tuple xs =>
          have e' : ((xs.length : Int) = 2) := of_decide_eq_true e
          match xs, e' with
          | [x, y], _ => exact ⟨x, y, rfl⟩
          | [], z => exact absurd z (by decide)
          | [_], z => exact absurd z (by simp)
          | _ :: _ :: _ :: _, z => simp at z; omega
        | list xs => exact absurd rfl (nl xs)
        | none => cases e
        | bool b => cases e
        | int i => cases e
        | str s => cases e
        | dict k => cases e
      obtain ⟨a, xs, rfl, hs, ha⟩ := th_tup th1
      cases ha with
      | cons h1 h2 =>
      cases h2 with
      | cons h2 h3 =>
      cases h3
      rename_i v1 v2
      refine ⟨_, rfl, a, _, rfl, hs, rfl, v1, _, rfl, v2, _, rfl, rfl, ?_⟩
      refine ⟨_, rfl, v1, _, _, _, _, rfl, .ty "str", th_ty (.dat h1), kit_str x, _, rfl, ?_⟩
      cases x with
      | str k =>
        cases h1
        refine iteF ?_
        cases e2 : rank k with
        | none =>
          refine ⟨_, rfl, k, _, rfl, rfl, R.no k e2, _, rfl, iteT ?_⟩
          refine q _ _ sm1 ?_
          have z : readUnk (.tuple [.str k, y]) = none := by
            show unkOf k y = none
            unfold unkOf
            rw [e2]
            rfl
          rw [z]
          rfl
        | some i =>
          obtain ⟨t, ht⟩ := R.has k i e2
          refine ⟨_, rfl, k, _, rfl, rfl, ht, _, rfl, iteF ?_⟩
          have ez : readUnk (.tuple [.str k, y]) = (ofKey k y).map fun z => [.inr k, z] := by
            show unkOf k y = _
            unfold unkOf
            rw [e2]
            rfl
          rw [ez] at q
          have fin : ∀ (b : Bool) (H2 : Hp), Same H1 H2 → (b = true → ∃ z, v2 = kV z ∧ ofKey k y = some z) → (b = false → ofKey k y = none) →
              tRet (tIf (tB (tVar 3)) (tTup (tCons (tVar 1) (tCons (tVar 2) tNil))) (tC .non)) { nx := fun _ H' => Q .non H', rt := Q } [some (.ref a), some (.str k), some v2, some (.bl b)] H2 := by
            intro b H2 sm2 ht hf
            refine ⟨_, rfl, _, rfl, ?_⟩
            cases b with
            | true =>
              obtain ⟨z, rfl, ez⟩ := ht rfl
              refine iteT ⟨_, rfl, _, rfl, (by show 2 ≤ sizeLine; decide), fun p hp => ?_⟩
              refine q _ _ ((sm1.trans sm2).trans (same_new hp)) ?_
              rw [ez]
              exact ⟨p, rfl, upd_same⟩
            | false =>
              refine iteF ?_
              refine q _ _ (sm1.trans sm2) ?_
              rw [hf rfl]
              rfl
          refine ⟨_, rfl, rfl, _, rfl, ?_⟩
          rw [show decide (V.str k = V.str (Str.ofString "in")) = decide (k = sIn) from eq_str _ _]
          refine ite2 (fun c => ?_) (fun c => ?_)
          · have ck : k = sIn := of_decide_eq_true c
            refine ⟨_, rfl, v2, y, rfl, .dat h2, _, rfl, ?_⟩
            cases y with
            | int j =>
              cases h2
              refine iteT ⟨_, rfl, j, 1, rfl, rfl, ?_⟩
              refine fin _ _ (Same.refl _) (fun hb => ⟨.inl j, rfl, ?_⟩) fun hb => ?_
              · unfold ofKey
                rw [if_pos ck]
                exact if_pos (of_decide_eq_true hb)
              · unfold ofKey
                rw [if_pos ck]
                exact if_neg (of_decide_eq_false hb)
            | _ =>
              refine iteF (fin _ _ (Same.refl _) (fun hb => by cases hb) fun _ => ?_)
              unfold ofKey
              rw [if_pos ck]
          · have ck : ¬ k = sIn := fun z => c (decide_eq_true z)
            refine ⟨_, rfl, v2, y, rfl, .dat h2, sh.2, fun H2 sm2 => ?_⟩
            refine fin _ _ sm2 (fun hb => ?_) fun hb => ?_
            · cases y with
              | str s =>
                cases h2
                refine ⟨.inr s, rfl, ?_⟩
                unfold ofKey
                rw [if_neg ck]
                exact if_pos hb
              | _ => cases hb
            · cases y with
              | str s =>
                unfold ofKey
                rw [if_neg ck]
                exact if_neg (by intro z; rw [show isNm (.str s) = isNmS s from rfl, z] at hb; cases hb)
              | _ =>
                unfold ofKey
                rw [if_neg ck]
      | _ => exact iteT (q _ _ sm1 rfl)
end

abbrev sOrderOf : Stmt := topS 20
theorem body_order : ∃ p1 p2 p3 p4 p5 p6 p7 p8 p9 p10 p11 k1 k2 k3, defBody sOrderOf = [.Return (some (.Tuple [.Subscript (.Name "RANKS" p1) (.Subscript (.Name "unknown" p2) (.Constant (.int 0) k1 p3) p4) p5, .Subscript (.Name "unknown" p6) (.Constant (.int 1) k2 p7) p8] k3 p9)) p10] ∧ p11 = p10 := ⟨_, _, _, _, _, _, _, _, _, _, _, _, _, _, rfl, rfl⟩
/-- what an unknown is to the sort -/
def keyD (u : List Key) : PyData := match u with
  | [.inr k, .inr s] => .tuple [.int ((rank k).getD 0), .str s]
  | [.inr k, .inl i] => .tuple [.int ((rank k).getD 0), .int i]
  | _ => .none
/-- the value of an unknown at a -/
def UnkH (h : Heap) (v : Value) (u : List Key) : Prop := ∃ a k o v1 v2, v = .ref a ∧ u = [.inr k, o] ∧ (rank k).isSome = true ∧ IsTup h a #[v1, v2] ∧ RelV (.str k) v1 ∧ RelV (kV o) v2
section
variable {P : Program} {w : World} {A : Around} {E : Value → Shared → Prop} {s : Shared} {K : PySem.W.Frag} {mg : Str → Option Value}
theorem order_pure {f d0 : Addr} {fd : FuncData} (F : Fun K "order_of" "order_of" sOrderOf f fd) (R : Ranks K w mg d0) (X : K.In s.heap) (G : s.heap.Ns mainGlobals mg) (hlim : s.heap.NoLimit) (hroom : A.depth < recursionLimit)
    {v : Value} {u : List Key} (hu : UnkH s.heap v u) : wpAny (model P w) A (call (.ref f) [v]) (PySem.W.KeyPure (keyD u) s) E s := by
  obtain ⟨oc, od, kV', doc, pm, an, cdv, ct, osl, rfl, lk, hcd⟩ := F.ex
  obtain ⟨a, k, o, v1, v2, rfl, rfl, hk, ht, r1, r2⟩ := hu
  obtain ⟨es, n, kd⟩ := R.kd
  obtain ⟨t1, rfl⟩ := r1
  obtain ⟨i, hi⟩ := Option.isSome_iff_exists.mp hk
  obtain ⟨t2, hns⟩ := R.has k i hi
  refine wpAny_call (Att.call_fn (binds := [("unknown", .ref a)]) X hlim lk hcd hroom (.of_eq rfl) (by first | rfl | decide | with_unfolding_all rfl) (fun s₁ IC => ?_) rfl rfl rfl)
  obtain ⟨h₁, tk₁, rfl⟩ := IC.toInCall.same
  have kp : ∀ b o, s.heap.get? b = some o → h₁.get? b = some o := IC.toInCall.keep
  have hn := IC.toInCall.ns
  have X₁ : K.In h₁ := X.keeps kp
  obtain ⟨p1, p2, p3, p4, p5, p6, p7, p8, p9, p10, p11, k1, k2, k3, hb, _⟩ := body_order
  rw [hb]
  refine wpAny_execs_cons (wpAny_Return_some (wpAny_Tuple_spliced ?_))
  have ld : ∀ {Q : Value → Shared → Prop} {E' : Value → Shared → Prop} {s' : Shared} {pos : Pos}, s'.heap.Ns s.heap.objs.size (bindL (envOfC "order_of" (defScope sOrderOf) s.heap.objs.size f cdv).kindOf [("unknown", .ref a)] fun _ => none) → Q (.ref a) s' →
      wpAny (model P w) (A.deeper (envOfC "order_of" (defScope sOrderOf) s.heap.objs.size f cdv)) (eval (.Name "unknown" pos) (envOfC "order_of" (defScope sOrderOf) s.heap.objs.size f cdv)) Q E' s' := fun hn h => wpAny_Name (wpAny_loadName_local rfl rfl hn (by first | rfl | with_unfolding_all rfl) h) (by decide)
  have lg : ∀ {Q : Value → Shared → Prop} {E' : Value → Shared → Prop} {s' : Shared} {pos : Pos}, s'.heap.Ns mainGlobals mg → Q (.ref d0) s' →
      wpAny (model P w) (A.deeper (envOfC "order_of" (defScope sOrderOf) s.heap.objs.size f cdv)) (eval (.Name "RANKS" pos) (envOfC "order_of" (defScope sOrderOf) s.heap.objs.size f cdv)) Q E' s' := fun hn h => Calls.Name_function_global rfl rfl (Calls.loadGlobal_global hn R.g h) (by decide)
  have G₁ : h₁.Ns mainGlobals mg := G.keeps kp
  have T₁ : IsTup h₁ a #[.str k t1, v2] := by
    obtain ⟨ot, g1, g2, g3, g4⟩ := ht
    exact ⟨ot, kp _ _ g1, g2, g3, g4⟩
  refine Calls.spliced_cons (PyProof.Rows.Subscript_ (lg G₁ (PyProof.Rows.Subscript_ (ld hn (wpAny_Constant_int (PyProof.Rows.item_tuple (j := 0) (x := .str k t1) T₁ (by decide) (by decide) rfl rfl ?_))))))
  have hm := PySem.W.mapOf_K (prog := P) (w := w) (h := h₁) X₁ kd.at_ kd.lit
  refine tail_any hm.typeIs slot_dict_getitem.lookup (wpAny_getItem_of (strKind_is P w k t1) hm (PySem.W.find_K kd.at_ hns) ?_) (by with_unfolding_all rfl)
  refine Calls.spliced_cons (PyProof.Rows.Subscript_ (ld hn (wpAny_Constant_int (PyProof.Rows.item_tuple (j := 1) (x := v2) T₁ (by decide) (by decide) rfl rfl ?_))))
  refine Calls.spliced_nil ⟨by show 2 ≤ sizeLine; decide, ?_⟩
  have push : ∀ b o, s.heap.get? b = some o → (h₁.push { cls := .type "tuple", data := .seq ([Value.int i t2, v2] : List Value).toArray }).get? b = some o := fun b o e => Heap.get?_push_of_some _ (kp b o e)
  have rd : ∀ (d : PyData), Reads (h₁.push { cls := .type "tuple", data := .seq ([Value.int i t2, v2] : List Value).toArray }) v2 d [] → Reads (h₁.push { cls := .type "tuple", data := .seq ([Value.int i t2, v2] : List Value).toArray }) (.ref h₁.objs.size) (.tuple [.int i, d]) [] := fun d hd =>
    .tuple (as := [] ++ ([] ++ [])) (Heap.get?_push_size _ rfl) rfl rfl (.cons (.int i t2) (.cons hd .nil))
  refine ⟨_, _, rfl, push, ?_⟩
  cases o with
  | inl j =>
    obtain ⟨t, rfl⟩ := r2
    show Reads _ _ (.tuple [.int ((rank k).getD 0), .int j]) []
    rw [hi]
    exact rd _ (.int j t)
  | inr z =>
    obtain ⟨t, rfl⟩ := r2
    show Reads _ _ (.tuple [.int ((rank k).getD 0), .str z]) []
    rw [hi]
    exact rd _ (.str z t)
end

/-- an unknown whose name is a text -/
def NmU (u : List Key) : Prop := ∃ k z, u = [.inr k, .inr z] ∧ (rank k).isSome = true
/-- an unknown at a value -/
def UnkAt (H : Hp) (y : V) (u : List Key) : Prop := ∃ a, y = .ref a ∧ H a = some (.tup (u.map kV))
def le2 : List Key → List Key → Bool := PySem.W.dataLe false keyD
theorem keyD_nm {u : List Key} (h : NmU u) : ∃ i z, keyD u = .tuple [.int i, .str z] := by
  obtain ⟨k, z, rfl, hk⟩ := h
  exact ⟨_, z, rfl⟩
theorem alike_nm {us : List (List Key)} (h : ∀ u ∈ us, NmU u) : PySem.W.AllAlike (us.map keyD) := by
  intro d hd d' hd'
  obtain ⟨u, hu, rfl⟩ := List.mem_map.mp hd
  obtain ⟨u', hu', rfl⟩ := List.mem_map.mp hd'
  obtain ⟨i, z, e⟩ := keyD_nm (h u hu)
  obtain ⟨i', z', e'⟩ := keyD_nm (h u' hu')
  rw [e, e']
  rfl
theorem sortable_nm {us : List (List Key)} (h : ∀ u ∈ us, NmU u) : PySem.W.Sortable (us.map keyD) := .inl fun d hd => by
  obtain ⟨u, hu, rfl⟩ := List.mem_map.mp hd
  obtain ⟨i, z, e⟩ := keyD_nm (h u hu)
  exact ⟨_, _, e⟩
/-- sorted(xs, key=order_of), the items unknowns by names -/
def rSortedUnk (K : PySem.W.Frag) (f : Addr) : List V → List V → Hp → VK → Prop := fun vs zs H Q => ∃ (a : Addr) (xs : List V) (us : List (List Key)), vs = [.ref a] ∧ zs = [.ref f] ∧ SqL K H a xs ∧ PySem.W.EachIs (UnkAt H) xs us ∧ (∀ u ∈ us, NmU u) ∧
  ∀ (ys : List V) (p : Addr), PySem.W.EachIs (UnkAt H) ys (us.mergeSort le2) → H p = none → Q (.ref p) (upd H p (.lst ys))
theorem unkH_of {X : Cx} {pins : List (Addr × Obj)} {σ : L2.St} {H : Hp} {s : Shared} (I : Inv X pins σ H s) {y : V} {v : Value} {u : List Key} (r : L2.RelV y v) (h : UnkAt H y u) (n : NmU u) : UnkH s.heap v u := by
  obtain ⟨a, rfl, ha⟩ := h
  obtain ⟨k, z, rfl, hk⟩ := n
  cases r
  obtain ⟨_, its, rv, o, h1, h2, m, h3⟩ := (show ObjOk X.prog X.w H s.heap a (.tup [V.str k, V.str z]) from I.hok a _ ha)
  cases rv with
  | cons r1 rv => cases rv with
    | cons r2 rv =>
      cases rv
      rename_i w1 w2
      exact ⟨a, k, .inr z, w1, w2, rfl, rfl, hk, ⟨o, h1, h2, m, h3⟩, r1, r2⟩
theorem unkH_keeps {h h' : Heap} {v : Value} {u : List Key} (k : ∀ b o, h.get? b = some o → h'.get? b = some o) (x : UnkH h v u) : UnkH h' v u := by
  obtain ⟨a, k1, o, v1, v2, e1, e2, hk, ⟨ot, g1, g2, g3⟩, r1, r2⟩ := x
  exact ⟨a, k1, o, v1, v2, e1, e2, hk, ⟨ot, k _ _ g1, g2, g3⟩, r1, r2⟩
theorem each_vals {H : Hp} : ∀ {xs : List V} {its : List Value} {us : List (List Key)}, PySem.W.EachIs (UnkAt H) xs us → Vals xs its → PySem.W.EachIs (fun v u => ∃ y, L2.RelV y v ∧ UnkAt H y u) its us
  | _, _, _, .nil, .nil => .nil
  | _, _, _, .cons h t, .cons r rt => .cons ⟨_, r, h⟩ (each_vals t rt)
theorem each_back {H : Hp} : ∀ {its : List Value} {us : List (List Key)}, PySem.W.EachIs (fun v u => ∃ y, L2.RelV y v ∧ UnkAt H y u) its us → ∃ ys, Vals ys its ∧ PySem.W.EachIs (UnkAt H) ys us
  | _, _, .nil => ⟨[], .nil, .nil⟩
  | _, _, .cons ⟨y, r, h⟩ t => by
    obtain ⟨ys, r1, h1⟩ := each_back t
    exact ⟨y :: ys, .cons r r1, .cons h h1⟩
theorem cr_sortedUnk {X : Cx} {k : Nat} {f d0 : Addr} {fd : FuncData} (hr : Room k X.A) (F : Fun X.K "order_of" "order_of" sOrderOf f fd) (R : Ranks X.K X.w X.mg d0) : CallRK X (.builtin "sorted") [Str.ofString "key"] (rSortedUnk X.K f) := by
  intro pins s σ H vs zs us' ws Q I r rz h
  obtain ⟨a, xs, us, rfl, rfl, hs, he, hn, q⟩ := h
  obtain rfl := Vals.ref1 r
  obtain ⟨w1, rfl, e1⟩ := vals1 rz
  obtain rfl : w1 = Value.ref f := e1
  obtain ⟨its, rv, hl, hz⟩ := I.list hs
  have hu := each_vals he rv
  have hlen : us.length ≤ sizeLine := by
    rw [← he.length]
    exact hz
  refine PySem.W.sorted_key_data (bs := us) (R := fun v u => ∃ y, L2.RelV y v ∧ UnkAt H y u) (b := false) (f := .ref f) keyD hl.isList hu (alike_nm hn) (sortable_nm hn) hlen (fun u hu => ?_) (ksk_s1 _ _) (fun _ => ksk_l1 _ _) (fun x => ksk_t1 f x) (fun v u hR hu h tk kp => ?_) fun out c h' tk kp hf hg hol ho => ?_
  · obtain ⟨i, z, e⟩ := keyD_nm (hn u hu)
    have hd : (keyD u).depth ≤ 5 := by
      rw [e]
      simp [PyData.depth, PyData.depthAll]
    have := hr.units
    omega
  · obtain ⟨y, ry, hy⟩ := hR
    have hd : X.A.in1.in1.depth < recursionLimit := hr.depth
    exact order_pure (s := { s with heap := h, toks := tk }) F R (I.kIn.keeps kp) ((I.mod.glob.keeps I.bk).keeps kp) (I.nolimit.keeps kp) hd (unkH_keeps kp (unkH_of I ry hy (hn u hu)))
  · obtain ⟨ys, rv', hy⟩ := each_back ho
    have hlen' : ys.length ≤ sizeLine := by
      rw [rv'.length, hol]
      exact hlen
    exact ⟨.ref (s.heap.objs.size + 1), upd H (s.heap.objs.size + 1) (.lst ys), I.laid (t' := tk) kp (Nat.le_succ _) ⟨hlen', out, c, rv', hg⟩, rfl, q ys _ hy (I.hok.fresh (Nat.le_succ _))⟩

/-! ### sums -/
def keyDat : Key → PyData
  | .inl i => .int i
  | .inr s => .str s
def unkD (u : List Key) : PyData := .tuple (u.map keyDat)
def partD (p : List Key × Int) : PyData := .tuple [unkD p.1, .int p.2]
def sumD (n : Int) (ps : List (List Key × Int)) : PyData := .tuple [.int n, .tuple (ps.map partD)]
abbrev Mul := List (List Key × Int)
def vKv (kvs : Mul) : List (List Key × V) := kvs.map fun p => (p.1, V.int p.2)
def getI (kvs : Mul) (u : List Key) : Int := ((kvs.find? fun kv => decide (kv.1 = u)).map (·.2)).getD 0
def keysN (kvs : Mul) : List (List Key) := (kvs.map (·.1)).filter fun u => !decide (getI kvs u = 0)
def form (kvs : Mul) : Mul := ((keysN kvs).mergeSort le2).map fun u => (u, getI kvs u)
theorem valV_kv (kvs : Mul) (u : List Key) : valV (vKv kvs) u = (kvs.find? fun kv => decide (kv.1 = u)).map fun kv => V.int kv.2 := by
  unfold valV vKv
  rw [List.find?_map]
  simp [Function.comp_def]
theorem valV_mem {kvs : Mul} {u : List Key} (h : u ∈ kvs.map (·.1)) : valV (vKv kvs) u = some (.int (getI kvs u)) := by
  rw [valV_kv]
  unfold getI
  cases e : kvs.find? fun kv => decide (kv.1 = u) with
  | some p => rfl
  | none =>
    obtain ⟨p, hp, rfl⟩ := List.mem_map.mp h
    have z := List.find?_eq_none.mp e p hp
    simp at z
theorem dp_key {K : PySem.W.Frag} {H : Hp} (k : Key) : Dp K H (kV k) (keyDat k) := by
  cases k with
  | inl i => exact .int i
  | inr s => exact .str s
theorem dps_keys {K : PySem.W.Frag} {H : Hp} : ∀ u : List Key, DpAll K H (u.map kV) (u.map keyDat)
  | [] => .nil
  | k :: u => .cons (dp_key k) (dps_keys u)
theorem dp_unk {K : PySem.W.Frag} {H : Hp} {y : V} {u : List Key} (h : UnkAt H y u) : Dp K H y (unkD u) := by
  obtain ⟨a, rfl, ha⟩ := h
  exact .tup (SqT.of ha) (dps_keys u)
theorem unkAt_same {H H' : Hp} (e : Same H H') {y : V} {u : List Key} (h : UnkAt H y u) : UnkAt H' y u := by
  obtain ⟨a, rfl, ha⟩ := h
  exact ⟨a, rfl, e _ _ ha⟩
theorem each_same {H H' : Hp} (e : Same H H') : ∀ {ys : List V} {us : List (List Key)}, PySem.W.EachIs (UnkAt H) ys us → PySem.W.EachIs (UnkAt H') ys us
  | _, _, .nil => .nil
  | _, _, .cons h t => .cons (unkAt_same e h) (each_same e t)
theorem each_get {H : Hp} : ∀ {ys : List V} {us : List (List Key)}, PySem.W.EachIs (UnkAt H) ys us → ∀ {i : Nat} {y : V}, ys[i]? = some y → ∃ u, us[i]? = some u ∧ UnkAt H y u
  | _, _, .nil, i, y, h => by simp at h
  | _, _, .cons h t, 0, y, e => by
    obtain rfl : _ = y := Option.some.inj e
    exact ⟨_, rfl, h⟩
  | _, _, .cons h t, i + 1, y, e => each_get t (i := i) e
theorem each_snoc {H : Hp} {y : V} {u : List Key} (h : UnkAt H y u) : ∀ {ys : List V} {us : List (List Key)}, PySem.W.EachIs (UnkAt H) ys us → PySem.W.EachIs (UnkAt H) (ys ++ [y]) (us ++ [u])
  | _, _, .nil => .cons h .nil
  | _, _, .cons g t => .cons g (each_snoc h t)
theorem dps_snoc {K : PySem.W.Frag} {H : Hp} {y : V} {d : PyData} (h : Dp K H y d) : ∀ {ys : List V} {ds : List PyData}, DpAll K H ys ds → DpAll K H (ys ++ [y]) (ds ++ [d])
  | _, _, .nil => .cons h .nil
  | _, _, .cons g t => .cons g (dps_snoc h t)
/-- tuples stay -/
def TupS (H H' : Hp) : Prop := ∀ a xs, H a = some (.tup xs) → H' a = some (.tup xs)
theorem TupS.of {H H' : Hp} (e : Same H H') : TupS H H' := fun _ _ h => e _ _ h
theorem TupS.trans {H H' H2 : Hp} (e : TupS H H') (f : TupS H' H2) : TupS H H2 := fun a xs h => f a xs (e a xs h)
theorem TupS.refl (H : Hp) : TupS H H := fun _ _ h => h
theorem TupS.put {H : Hp} {S : Addr} {o o' : HO} (hS : H S = some o) (ho : ∀ xs, o ≠ .tup xs) : TupS H (upd H S o') := fun a xs h => by
  have ne : a ≠ S := fun z => by
    rw [z, hS] at h
    exact ho xs (Option.some.inj h)
  rw [upd_ne ne]
  exact h
theorem eachs_snoc {α β : Type} {R : α → β → Prop} {y : α} {u : β} (h : R y u) : ∀ {ys : List α} {us : List β}, PySem.W.EachIs R ys us → PySem.W.EachIs R (ys ++ [y]) (us ++ [u])
  | _, _, .nil => .cons h .nil
  | _, _, .cons g t => .cons g (eachs_snoc h t)
theorem eachs_imp {α β : Type} {R S : α → β → Prop} (f : ∀ a b, R a b → S a b) : ∀ {as : List α} {bs : List β}, PySem.W.EachIs R as bs → PySem.W.EachIs S as bs
  | _, _, .nil => .nil
  | _, _, .cons h t => .cons (f _ _ h) (eachs_imp f t)
theorem eachs_get {α β : Type} {R : α → β → Prop} : ∀ {ys : List α} {us : List β}, PySem.W.EachIs R ys us → ∀ {i : Nat} {y : α}, ys[i]? = some y → ∃ u, us[i]? = some u ∧ R y u
  | _, _, .nil, i, y, h => by simp at h
  | _, _, .cons h t, 0, y, e => by
    obtain rfl : _ = y := Option.some.inj e
    exact ⟨_, rfl, h⟩
  | _, _, .cons h t, i + 1, y, e => eachs_get t (i := i) e
/-- a part of a sum, a sum: all of tuples -/
def PartT (H : Hp) (v : V) (q : List Key × Int) : Prop := ∃ c e, v = .ref c ∧ H c = some (.tup [.ref e, .int q.2]) ∧ H e = some (.tup (q.1.map kV))
def SumT (H : Hp) (v : V) (n : Int) (ps : Mul) : Prop := ∃ a b xs, v = .ref a ∧ H a = some (.tup [.int n, .ref b]) ∧ H b = some (.tup xs) ∧ PySem.W.EachIs (PartT H) xs ps
theorem partT_s {H H' : Hp} (e : TupS H H') {v : V} {q : List Key × Int} (h : PartT H v q) : PartT H' v q := by
  obtain ⟨c, k, h1, h2, h3⟩ := h
  exact ⟨c, k, h1, e _ _ h2, e _ _ h3⟩
theorem sumT_s {H H' : Hp} (e : TupS H H') {v : V} {n : Int} {ps : Mul} (h : SumT H v n ps) : SumT H' v n ps := by
  obtain ⟨a, b, xs, h1, h2, h3, h4⟩ := h
  exact ⟨a, b, xs, h1, e _ _ h2, e _ _ h3, eachs_imp (fun _ _ => partT_s e) h4⟩
theorem parts_dp {K : PySem.W.Frag} {H : Hp} : ∀ {xs : List V} {ps : Mul}, PySem.W.EachIs (PartT H) xs ps → DpAll K H xs (ps.map partD)
  | _, _, .nil => .nil
  | _, _, .cons h t => by
    obtain ⟨c, e, rfl, h2, h3⟩ := h
    exact .cons (.tup (SqT.of h2) (.cons (dp_unk ⟨e, rfl, h3⟩) (.cons (.int _) .nil))) (parts_dp t)
theorem sumT_dp {K : PySem.W.Frag} {H : Hp} {v : V} {n : Int} {ps : Mul} (h : SumT H v n ps) : Dp K H v (sumD n ps) := by
  obtain ⟨a, b, xs, rfl, h2, h3, h4⟩ := h
  exact .tup (SqT.of h2) (.cons (.int n) (.cons (.tup (SqT.of h3) (parts_dp h4)) .nil))
def spOneForm (K : PySem.W.Frag) : Sp := fun vs H Q _ => ∃ (n : Int) (d : Addr) (kvs : Mul), vs = [.int n, .ref d] ∧ H d = some (.dT (vKv kvs)) ∧ (∀ u ∈ kvs.map (·.1), NmU u) ∧ kvs.length ≤ 1000 ∧
  ∀ v H', Same H H' → SumT H' v n (form kvs) → Q v H'
/-- a heap without the object at D -/
def wo (H : Hp) (D : Addr) : Hp := fun b => if b = D then none else H b
theorem wo_ne {H : Hp} {D b : Addr} (h : b ≠ D) : wo H D b = H b := if_neg h
theorem wo_same {H : Hp} {D : Addr} : Same (wo H D) H := fun b o e => by
  by_cases h : b = D
  · rw [h] at e
    unfold wo at e
    rw [if_pos rfl] at e
    cases e
  · rw [wo_ne h] at e
    exact e
theorem wo_self {H : Hp} {D : Addr} {o : HO} : wo (upd H D o) D = wo H D := by
  funext b
  by_cases h : b = D
  · unfold wo
    rw [if_pos h, if_pos h]
  · rw [wo_ne h, wo_ne h, upd_ne h]
theorem wo_new {H : Hp} {D T : Addr} {o : HO} (hT : H T = none) (h : T ≠ D) : Same (wo H D) (wo (upd H T o) D) := fun b x e => by
  have e2 : H b = some x := wo_same b x e
  have hb : b ≠ D := fun z => by
    rw [z] at e
    unfold wo at e
    rw [if_pos rfl] at e
    cases e
  rw [wo_ne hb, upd_ne (ne_of_none e2 hT)]
  exact e2
abbrev sOneForm : Stmt := topS 21
theorem scOneForm : FnScope ["number", "multiples", "held", "unknown"] ["number", "multiples"] (defScope sOneForm) := ⟨rfl, rfl, rfl, by decide +kernel, rfl, by decide +kernel, by decide +kernel⟩
theorem sz1000 {n : Nat} (h : n ≤ 1000) : n ≤ sizeLine := Nat.le_of_lt (small1000 h)
theorem unkAt_upd {H : Hp} {D : Addr} {l : List V} {o : HO} (hD : H D = some (.lst l)) {y : V} {u : List Key} (h : UnkAt H y u) : UnkAt (upd H D o) y u := by
  obtain ⟨a, rfl, ha⟩ := h
  refine ⟨a, rfl, ?_⟩
  rw [upd_ne (ne_of ha hD (by intro z; cases z))]
  exact ha
theorem each_upd {H : Hp} {D : Addr} {l : List V} {o : HO} (hD : H D = some (.lst l)) : ∀ {ys : List V} {us : List (List Key)}, PySem.W.EachIs (UnkAt H) ys us → PySem.W.EachIs (UnkAt (upd H D o)) ys us
  | _, _, .nil => .nil
  | _, _, .cons h t => .cons (unkAt_upd hD h) (each_upd hD t)
theorem each_len {H : Hp} {ys : List V} {us : List (List Key)} (h : PySem.W.EachIs (UnkAt H) ys us) : ys.length = us.length := h.length
theorem mem_sort {us : List (List Key)} {u : List Key} (h : u ∈ us.mergeSort le2) : u ∈ us := (List.mergeSort_perm us le2).mem_iff.mp h
section
variable {P : Program} {w : World} {K : PySem.W.Frag} {mg : Str → Option Value} {base : Heap}
theorem ok_oneForm {f fO d0 : Addr} {fd fdO : FuncData} (F : Fun K "one_form" "one_form" sOneForm f fd) (T : Bi mg) (R : Ranks K w mg d0) (FO : Fun K "order_of" "order_of" sOrderOf fO fdO) (gO : mg "order_of" = some (.ref fO)) :
    FnOk P w K mg base CX0 2 f fd ["number", "multiples"] (spOneForm K) := by
  refine F.ok scOneForm (fun vs H Q E h => ?_) (fun cdv A outer s H vs Q E hr h => ?_)
  · obtain ⟨n, d, kvs, rfl, _⟩ := h
    rfl
  · obtain ⟨n, d, kvs, rfl, hd, hn, hl, q⟩ := h
    have hu := hu_of hr
    refine ⟨_, pss_cons (ps_set (i := 2) scOneForm.nd rfl (.inl rfl) (pe_callBK (cr_sortedUnk hr FO R) (by rfl) T.sorted (by decide +kernel) (pa_cons (pe_lock (pe_lc (own := [("unknown", 3)]) (g := gName 3) (tt := _) rfl scOneForm.nd (pi_keys (pv 1)) (blkOk_by (N := ["number", "multiples", "held", "unknown"]) (sc := defScope sOneForm) (by decide +kernel)) (fun _ _ _ _ _ => pg_name (i := 3) scOneForm.nd rfl (.inl rfl)) (fun _ _ _ _ _ => pts_one (pt_cmpR op_ne (pe_dget hu (pv 1) (pv 3) (fun _ _ => rfl)) pe_int (nomark _))) (fun _ _ _ _ _ => (pv 3)))) pa_nil) (pk_cons (pe_glob (v := .ref fO) rfl gO rfl) pk_nil)))
      (pss_one (ps_ret (pe_tup (pa_cons (pv 0) (pa_cons (pe_callTy call_tuple_of (by rfl) T.tuple (by decide +kernel) (pa_cons (pe_lc (own := [("unknown", 3)]) (g := gName 3) (tt := tYes) rfl scOneForm.nd (pi_list (pv 2)) (blkOk_by (N := ["number", "multiples", "held", "unknown"]) (sc := defScope sOneForm) (by decide +kernel)) (fun _ _ _ _ _ => pg_name (i := 3) scOneForm.nd rfl (.inl rfl)) (fun _ _ _ _ _ => pts_nil) (fun _ _ _ _ _ => (pe_tup (pa_cons (pv 3) (pa_cons (pe_dget hu (pv 1) (pv 3) (fun _ _ => rfl)) pa_nil))))) pa_nil)) pa_nil))))), ?_⟩
    refine ⟨d, _, hd, trivial, fun od => ⟨_, rfl, d, od, rfl, .inr ⟨_, upd_same, fun D hD => ?_⟩⟩⟩
    have lenK : (vKv kvs).length = kvs.length := List.length_map _
    have hDd : D ≠ d := by
      intro z
      rw [z, upd_same] at hD
      cases hD
    have hDn : H D = none := by
      rw [upd_ne hDd] at hD
      exact hD
    refine lc_it walk_keysT (fun i H1 => (∀ b o, b ≠ D → upd H d (.frz od (.dT (vKv kvs))) b = some o → H1 b = some o) ∧ ∃ ys, H1 D = some (.lst ys) ∧ ys.length ≤ i ∧ PySem.W.EachIs (UnkAt H1) ys (((kvs.take i).map (·.1)).filter fun u => !decide (getI kvs u = 0)))
      ⟨fun b o hb e => by rw [upd_ne hb]; exact e, [], upd_same, Nat.le_refl _, .nil⟩ (fun i H1 _ ⟨kp, _⟩ => kp _ _ hDd.symm upd_same) ?_ ?_
    · rintro i x H1 H1' hi ⟨kp, ys, hD1, hlen, he⟩ ⟨rfl, k, v, qa, hk, rfl, hq⟩
      have hi' : i < kvs.length := by rw [lenK] at hi; exact hi
      obtain ⟨⟨k0, m⟩, hm⟩ : ∃ p, kvs[i]? = some p := ⟨kvs[i], List.getElem?_eq_getElem hi'⟩
      have hk2 : (k, v) = (k0, V.int m) := by
        unfold vKv at hk
        rw [List.getElem?_map, hm] at hk
        exact (Option.some.inj hk).symm
      cases hk2
      have hmem : k ∈ kvs.map (·.1) := List.mem_map.mpr ⟨_, List.mem_of_getElem? hm, rfl⟩
      have hd1 : H1' d = some (.frz od (.dT (vKv kvs))) := kp _ _ hDd.symm upd_same
      have qD : qa ≠ D := ne_of hq hD1 (by intro z; cases z)
      have hqH : UnkAt H1' (.ref qa) k := ⟨qa, rfl, hq⟩
      refine ⟨rfl, _, rfl, _, rfl, d, .int (getI kvs k), rfl, .inr ⟨vKv kvs, k, qa, .inr ⟨od, hd1⟩, rfl, hq, (valV_mem hmem).symm⟩, rfl, _, rfl, ?_⟩
      rw [eq_int]
      have tk : (kvs.take (i + 1)).map (·.1) = (kvs.take i).map (·.1) ++ [k] := by
        rw [List.take_add_one, hm]
        simp
      cases c : !decide (getI kvs k = 0) with
      | true =>
        refine iteT ⟨_, rfl, ys, hD1, small1000 (by omega), fun b o hb e => ?_, ys ++ [.ref qa], upd_same, by simp; omega, ?_⟩
        · rw [upd_ne hb]
          exact kp b o hb e
        · rw [tk, List.filter_append]
          have z : [k].filter (fun u => !decide (getI kvs u = 0)) = [k] := by simp [List.filter, c]
          rw [z]
          exact each_snoc (unkAt_upd hD1 hqH) (each_upd hD1 he)
      | false =>
        refine iteF ⟨kp, ys, hD1, by omega, ?_⟩
        rw [tk, List.filter_append]
        have z : [k].filter (fun u => !decide (getI kvs u = 0)) = [] := by simp [List.filter, c]
        rw [z, List.append_nil]
        exact he
    · rintro H1 ⟨kp, ys, hD1, hlen, he⟩
      have tl : (kvs.take (vKv kvs).length) = kvs := by rw [lenK]; exact List.take_length
      rw [tl] at he
      have hd1 : H1 d = some (.frz od (.dT (vKv kvs))) := kp _ _ hDd.symm upd_same
      have sm : Same H (upd H1 d (.dT (vKv kvs))) := fun b o e => by
        by_cases hb : b = d
        · rw [hb] at e ⊢
          rw [upd_same]
          exact hd.symm.trans e
        · rw [upd_ne hb]
          refine kp b o (ne_of_none e hDn) ?_
          rw [upd_ne hb]
          exact e
      have eD : (upd H1 d (.dT (vKv kvs))) D = some (.lst ys) := by
        rw [upd_ne hDd]
        exact hD1
      have he2 : PySem.W.EachIs (UnkAt (upd H1 d (.dT (vKv kvs)))) ys (keysN kvs) := by
        have go : ∀ {zs : List V} {us : List (List Key)}, PySem.W.EachIs (UnkAt H1) zs us → PySem.W.EachIs (UnkAt (upd H1 d (.dT (vKv kvs)))) zs us := by
          intro zs us h
          induction h with
          | nil => exact .nil
          | cons h t ih =>
            obtain ⟨a, rfl, ha⟩ := h
            refine .cons ⟨a, rfl, ?_⟩ ih
            rw [upd_ne (ne_of ha hd1 (by intro z; cases z))]
            exact ha
        exact go he
      have hnK : ∀ u ∈ keysN kvs, NmU u := fun u hu => hn u (List.mem_filter.mp hu).1
      refine ⟨hd1, D, ys, keysN kvs, rfl, rfl, SqL.of eD, he2, hnK, fun zs p hz hp => ?_⟩
      generalize hH2 : upd H1 d (.dT (vKv kvs)) = H2 at sm eD he2 hp hz ⊢
      have h2d : H2 d = some (.dT (vKv kvs)) := by rw [← hH2, upd_same]
      have sm3 : Same H2 (upd H2 p (.lst zs)) := same_new hp
      have hz3 : PySem.W.EachIs (UnkAt (upd H2 p (.lst zs))) zs ((keysN kvs).mergeSort le2) := each_same sm3 hz
      have lz : zs.length = ((keysN kvs).mergeSort le2).length := hz.length
      have lz2 : zs.length ≤ 1000 := by
        rw [lz, (List.mergeSort_perm _ _).length_eq]
        unfold keysN
        refine Nat.le_trans (List.length_filter_le _ _) ?_
        rw [List.length_map]
        exact hl
      generalize hH3 : upd H2 p (.lst zs) = H3 at sm3 hz3 ⊢
      have h3d : H3 d = some (.dT (vKv kvs)) := sm3 _ _ h2d
      have h3p : H3 p = some (.lst zs) := by rw [← hH3, upd_same]
      refine ⟨_, rfl, _, rfl, p, rfl, ⟨_, SqL.of h3p⟩, fun D2 hD2 => ?_⟩
      have pD2 : p ≠ D2 := ne_of_none h3p hD2
      refine lc_it (walk_list (xs := zs)) (fun i H4 => (∀ b o, b ≠ D2 → H3 b = some o → H4 b = some o) ∧ ∃ ps, H4 D2 = some (.lst ps) ∧ ps.length = i ∧ PySem.W.EachIs (PartT H4) ps ((((keysN kvs).mergeSort le2).take i).map fun u => (u, getI kvs u)))
        ⟨fun b o hb e => by rw [upd_ne hb]; exact e, [], upd_same, rfl, .nil⟩ (fun i H4 _ ⟨kp, _⟩ => SqL.of (kp _ _ pD2 h3p)) ?_ ?_
      · rintro i x H4 H4' hi ⟨kp4, ps, h4D, hps, hdp⟩ ⟨rfl, hx⟩
        obtain ⟨u, hu1, a, rfl, ha⟩ := each_get hz3 hx
        have haD : a ≠ D2 := ne_of_none ha hD2
        have ha4 := kp4 _ _ haD ha
        have h4d := kp4 _ _ (ne_of_none h3d hD2) h3d
        have hmem : u ∈ kvs.map (·.1) := (List.mem_filter.mp (mem_sort (List.mem_of_getElem? hu1))).1
        refine ⟨rfl, yes_go (iteT ⟨_, rfl, _, rfl, _, rfl, d, .int (getI kvs u), rfl, .inr ⟨vKv kvs, u, a, .inl h4d, rfl, ha4, (valV_mem hmem).symm⟩, (by show 2 ≤ sizeLine; decide), fun t ht => ⟨ps, ?_, small1000 (by omega), ?_, ps ++ [.ref t], upd_same, by simp; omega, ?_⟩⟩)⟩
        · rw [upd_ne (ne_of_none h4D ht)]
          exact h4D
        · intro b o hb e
          rw [upd_ne hb, upd_ne (ne_of_none (kp4 b o hb e) ht)]
          exact kp4 b o hb e
        · have tD : t ≠ D2 := fun z => by rw [z, h4D] at ht; cases ht
          have ts : TupS H4' (upd (upd H4' t (.tup [.ref a, .int (getI kvs u)])) D2 (.lst (ps ++ [.ref t]))) := (TupS.of (same_new ht)).trans (TupS.put (o := .lst ps) (by
            rw [upd_ne (ne_of_none h4D ht)]
            exact h4D) (by intro xs z; cases z))
          rw [List.take_add_one, hu1]
          simp only [Option.toList_some, List.map_append, List.map_cons, List.map_nil]
          refine eachs_snoc ⟨t, a, rfl, ?_, ts _ _ ha4⟩ (eachs_imp (fun _ _ => partT_s ts) hdp)
          rw [upd_ne tD, upd_same]
      · rintro H4 ⟨kp4, ps, h4D, hps, hdp⟩
        have tl2 : ((keysN kvs).mergeSort le2).take zs.length = (keysN kvs).mergeSort le2 := by rw [lz]; exact List.take_length
        rw [tl2] at hdp
        refine ⟨D2, ps, rfl, .inl ⟨SqL.of h4D, fun l hl4 => ⟨(by show 2 ≤ sizeLine; decide), fun r hr5 => ?_⟩⟩⟩
        have s4 : Same H3 H4 := fun b o e => kp4 b o (ne_of_none e hD2) e
        have s5 := same_new (o := .tup ps) hl4
        have s6 := same_new (o := .tup [.int n, .ref l]) hr5
        refine q _ _ ((((sm.trans sm3).trans s4).trans s5).trans s6) ?_
        have el : (upd (upd H4 l (.tup ps)) r (.tup [.int n, .ref l])) l = some (.tup ps) := s6 _ _ upd_same
        exact ⟨r, l, ps, rfl, upd_same, el, eachs_imp (fun _ _ => partT_s (TupS.of (s5.trans s6))) hdp⟩
end

/-! ### a for over a list or a tuple -/
def iSeq (K : PySem.W.Frag) (tl : TE) : TI := fun σ H R => tl σ H fun x H1 => ∃ a xs, x = .ref a ∧ (SqL K H1 a xs ∨ SqT K H1 a xs) ∧ ∀ J G, Walk J xs.length G (YAt xs) → (∀ H4, (SqL K H1 a xs → SqL K H4 a xs) → (SqT K H1 a xs → SqT K H4 a xs) → G H4) → R J H1
theorem pi_seq {X : Cx} {tg l : Expr} {tl : TE} (hl : PE X l tl) : PI X tg l (iSeq X.K tl) := by
  refine ⟨fun pins s σ H R I h => ?_⟩
  refine thn (hl.run pins s σ H _ I h) fun v s1 ⟨x, H1, I1, r1, q1⟩ => ?_
  obtain ⟨a, xs, e, hq, q⟩ := q1
  subst e
  cases r1
  have fp : ∀ b ∈ [s1.heap.objs.size], FpOk X pins H1 b := fun b hb => by
    have e : b = s1.heap.objs.size := by simpa using hb
    subst e
    exact I1.fpOk (Nat.le_refl _) (I1.hok.fresh (Nat.le_refl _))
  rcases hq with hq | hq
  · obtain ⟨its, rv, p, hz⟩ := I1.list hq
    refine wpAny_pyIter_list p.isList ?_
    exact ⟨s1.heap.objs.size, [s1.heap.objs.size], _, _, H1, rfl, I1.kept (t' := s1.toks) fun b o e => Heap.get?_push_of_some _ e, turn_list a _, ⟨_, Heap.get?_push_size _ rfl, rfl, rfl⟩, fp, q _ (fun H4 => SqL X.K H4 a xs) walk_list fun H4 e _ => e hq⟩
  · obtain ⟨its, rv, p, hz⟩ := I1.tuple hq
    refine wpAny_pyIter_tuple (show s1.heap.IsTuple a its.toArray from p) ?_
    exact ⟨s1.heap.objs.size, [s1.heap.objs.size], _, _, H1, rfl, I1.kept (t' := s1.toks) fun b o e => Heap.get?_push_of_some _ e, turn_tuple a _, ⟨_, Heap.get?_push_size _ rfl, rfl, rfl⟩, fp, q _ (fun H4 => SqT X.K H4 a xs) walk_tup fun H4 _ e => e hq⟩
/-! ### the mirror of read_sum -/
def putI (kvs : Mul) (u : List Key) (m : Int) : Mul := if (kvs.any fun kv => decide (kv.1 = u)) = true then kvs.map (fun kv => if kv.1 = u then (kv.1, m) else kv) else kvs ++ [(u, m)]
theorem put_vKv (kvs : Mul) (u : List Key) (m : Int) : putK (vKv kvs) u (.int m) = vKv (putI kvs u m) := by
  unfold putK putI vKv
  have e : ((kvs.map fun p => (p.1, V.int p.2)).any fun kv => decide (kv.1 = u)) = kvs.any fun kv => decide (kv.1 = u) := by
    rw [List.any_map]
    rfl
  rw [e]
  split
  · rw [List.map_map, List.map_map]
    apply List.map_congr_left
    intro p _
    by_cases h : p.1 = u
    · simp [h]
    · simp [h]
  · simp
theorem putI_len (kvs : Mul) (u : List Key) (m : Int) : (putI kvs u m).length ≤ kvs.length + 1 := by
  unfold putI
  split
  · rw [List.length_map]; omega
  · simp
theorem putI_keys {kvs : Mul} {u : List Key} {m : Int} (hu : NmU u) (h : ∀ x ∈ kvs.map (·.1), NmU x) : ∀ x ∈ (putI kvs u m).map (·.1), NmU x := by
  intro x hx
  unfold putI at hx
  split at hx
  · rw [List.map_map] at hx
    obtain ⟨p, hp, rfl⟩ := List.mem_map.mp hx
    have e : (Prod.fst ∘ fun kv : List Key × Int => if kv.1 = u then (kv.1, m) else kv) p = p.1 := by
      show (if p.1 = u then (p.1, m) else p).1 = p.1
      split <;> rfl
    rw [e]
    exact h _ (List.mem_map.mpr ⟨p, hp, rfl⟩)
  · rw [List.map_append] at hx
    rcases List.mem_append.mp hx with hx | hx
    · exact h x hx
    · have e : x = u := by simpa using hx
      rw [e]
      exact hu
def addPart (acc : Mul) (p : PyData) : Option Mul := match items p with
  | some [x, .int m] => (readUnk x).map fun u => putI acc u (getI acc u + m)
  | _ => none
def readParts : List PyData → Mul → Option Mul
  | [], acc => some acc
  | p :: r, acc => (addPart acc p).bind (readParts r)
theorem readParts_app : ∀ (ps qs : List PyData) (acc : Mul), readParts (ps ++ qs) acc = (readParts ps acc).bind (readParts qs)
  | [], qs, acc => rfl
  | p :: ps, qs, acc => by
    show (addPart acc p).bind (readParts (ps ++ qs)) = ((addPart acc p).bind (readParts ps)).bind (readParts qs)
    cases e : addPart acc p with
    | none => rfl
    | some a => exact readParts_app ps qs a
def readSum (d : PyData) : Option (Int × Mul) := match d with
  | .int n => some (n, [])
  | d => match items d with
    | some [.int n, q] => (items q).bind fun ds => (readParts ds []).map fun kvs => (n, form kvs)
    | _ => none
def okPart (p : PyData) : Prop := ∀ x m, items p = some [x, .int m] → (∀ xs, x ≠ .list xs) ∧ shortP x ∧ ∀ u, readUnk x = some u → NmU u
def okSum (d : PyData) : Prop := ∀ n q ds, items d = some [.int n, q] → items q = some ds → ds.length ≤ 1000 ∧ ∀ p ∈ ds, okPart p
def SumV (K : PySem.W.Frag) (H : Hp) (v : V) : Option (Int × Mul) → Prop
  | none => v = .non
  | some (n, ps) => SumT H v n ps
def spReadSum (K : PySem.W.Frag) : Sp := fun vs H Q _ => ∃ v d, vs = [v] ∧ Th K H v d ∧ okSum d ∧ ∀ v' H', Same H H' → SumV K H' v' (readSum d) → Q v' H'
abbrev sReadSum : Stmt := topS 22
theorem scReadSum : FnScope ["thing", "multiples", "part", "unknown"] ["thing"] (defScope sReadSum) := ⟨rfl, rfl, rfl, by decide +kernel, rfl, by decide +kernel, by decide +kernel⟩
theorem row_sq {K : PySem.W.Frag} {H H' : Hp} {a : Addr} {xs : List V} (e : Same H H') (h : SqL K H a xs ∨ SqT K H a xs) : SqL K H' a xs ∨ SqT K H' a xs := h.imp (sqL_same e) (sqT_same e)
theorem ix_row {K : PySem.W.Frag} {H : Hp} {a : Addr} {xs : List V} {i : Int} {v : V} {Q : VK} (h : SqL K H a xs ∨ SqT K H a xs) (e : atI xs i = some v) (q : Q v H) : rIx K (.ref a) (.int i) H Q := by
  rcases h with h | h
  · exact .inl ⟨a, xs, i, v, rfl, rfl, h, e, q⟩
  · exact .inr (.inl ⟨a, xs, i, v, rfl, rfl, h, e, q⟩)
theorem rd_drop {H : Hp} {D b : Addr} {o u : HO} (h : Rd (upd H D o) b u) (h1 : o ≠ u) (h2 : ∀ x, o ≠ .frz x u) : Rd H b u := by
  have hb : b ≠ D := fun z => by
    rcases h with h | ⟨x, h⟩
    · rw [z, upd_same] at h
      exact h1 (Option.some.inj h)
    · rw [z, upd_same] at h
      exact h2 x (Option.some.inj h)
  rcases h with h | ⟨x, h⟩
  · rw [upd_ne hb] at h
    exact .inl h
  · rw [upd_ne hb] at h
    exact .inr ⟨x, h⟩
theorem sqL_drop {K : PySem.W.Frag} {H : Hp} {D b : Addr} {k : List (List Key × V)} {xs : List V} (h : SqL K (upd H D (.dT k)) b xs) : SqL K H b xs := by
  rcases h with h | h
  · exact .inl (rd_drop h (by intro z; cases z) (by intro x z; cases z))
  · exact .inr h
theorem sqT_drop {K : PySem.W.Frag} {H : Hp} {D b : Addr} {k : List (List Key × V)} {xs : List V} (h : SqT K (upd H D (.dT k)) b xs) : SqT K H b xs := by
  rcases h with h | h
  · exact .inl (rd_drop h (by intro z; cases z) (by intro x z; cases z))
  · exact .inr h
theorem row_drop {K : PySem.W.Frag} {H : Hp} {D b : Addr} {k : List (List Key × V)} {xs : List V} (h : SqL K (upd H D (.dT k)) b xs ∨ SqT K (upd H D (.dT k)) b xs) : SqL K H b xs ∨ SqT K H b xs := h.imp sqL_drop sqT_drop
theorem dps_get {K : PySem.W.Frag} {H : Hp} : ∀ {vs : List V} {ds : List PyData}, DpAll K H vs ds → ∀ {i : Nat} {v : V}, vs[i]? = some v → ∃ d, ds[i]? = some d ∧ Dp K H v d
  | _, _, .nil, i, v, h => by simp at h
  | _, _, .cons g t, 0, v, e => by
    obtain rfl : _ = v := Option.some.inj e
    exact ⟨_, rfl, g⟩
  | _, _, .cons g t, i + 1, v, e => dps_get t (i := i) e
theorem parts_split {ds : List PyData} {i : Nat} {dp : PyData} (h : ds[i]? = some dp) : ds = ds.take i ++ dp :: ds.drop (i + 1) := by
  have hi : i < ds.length := (List.getElem?_eq_some_iff.mp h).1
  have e : ds[i] = dp := (List.getElem?_eq_some_iff.mp h).2
  rw [← e, ← List.drop_eq_getElem_cons hi]
  exact (List.take_append_drop i ds).symm
theorem parts_stop {ds : List PyData} {i : Nat} {dp : PyData} {acc : Mul} (h : ds[i]? = some dp) (h1 : readParts (ds.take i) [] = some acc) (h2 : addPart acc dp = none) : readParts ds [] = none := by
  rw [parts_split h, readParts_app, h1]
  show (addPart acc dp).bind _ = none
  rw [h2]
  rfl
theorem parts_more {ds : List PyData} {i : Nat} {dp : PyData} {acc acc' : Mul} (h : ds[i]? = some dp) (h1 : readParts (ds.take i) [] = some acc) (h2 : addPart acc dp = some acc') : readParts (ds.take (i + 1)) [] = some acc' := by
  rw [List.take_add_one, h, readParts_app, h1]
  show (addPart acc dp).bind (readParts []) = some acc'
  rw [h2]
  rfl
theorem getD_val (acc : Mul) (u : List Key) : (valV (vKv acc) u).getD (.int 0) = .int (getI acc u) := by
  rw [valV_kv]
  unfold getI
  cases acc.find? fun kv => decide (kv.1 = u) with
  | none => rfl
  | some p => rfl
/-- two items -/
theorem dps_two {K : PySem.W.Frag} {H : Hp} {xs : List V} {a b : PyData} (h : DpAll K H xs [a, b]) : ∃ x y, xs = [x, y] ∧ Dp K H x a ∧ Dp K H y b := by
  cases h with
  | cons h1 h => cases h with
    | cons h2 h =>
      cases h
      exact ⟨_, _, rfl, h1, h2⟩
theorem rof_two {d : PyData} (h : isRof d 2 = true) : ∃ a b, items d = some [a, b] := by
  unfold isRof at h
  cases e : items d with
  | none => rw [e] at h; cases h
  | some xs =>
    rw [e] at h
    have e' : ((xs.length : Int) = 2) := of_decide_eq_true h
    match xs, e' with
    | [x, y], _ => exact ⟨x, y, rfl⟩
    | [], z => exact absurd z (by decide)
    | [_], z => exact absurd z (by simp)
    | _ :: _ :: _ :: _, z => simp at z; omega
theorem rof_not {d : PyData} (h : isRof d 2 = false) : ∀ a b, items d ≠ some [a, b] := by
  intro a b e
  unfold isRof at h
  rw [e] at h
  cases h
theorem at2 {a b : V} (i : Nat) (v : V) (h : [a, b][i]? = some v) : atI [a, b] (i : Int) = some v := by
  have hi : i < 2 := (List.getElem?_eq_some_iff.mp h).1
  unfold atI ixN
  rw [if_pos (by omega), if_pos (by show (i : Int) < ((2 : Nat) : Int); omega)]
  show ([a, b] : List V)[((i : Int)).toNat]? = _
  rw [Int.toNat_natCast]
  exact h
section
variable {P : Program} {w : World} {K : PySem.W.Frag} {mg : Str → Option Value} {base : Heap}
theorem ok_readSum {f : Addr} {fd : FuncData} (F : Fun K "read_sum" "read_sum" sReadSum f fd) (G1 : Has P w K mg base CX0 3 "is_integer" ["thing"] (spIsInt K)) (G2 : Has P w K mg base CX0 3 "is_row_of" ["thing", "many"] (spIsRowOf K))
    (G3 : Has P w K mg base CX0 3 "is_row" ["thing"] (spIsRow K)) (G4 : Has P w K mg base CX0 3 "read_unknown" ["thing"] (spReadUnk K)) (G5 : Has P w K mg base CX0 3 "one_form" ["number", "multiples"] (spOneForm K)) :
    FnOk P w K mg base CX0 4 f fd ["thing"] (spReadSum K) := by
  refine F.ok scReadSum (fun vs H Q E h => ?_) (fun cdv A outer s H vs Q E hr h => ?_)
  · obtain ⟨v, d, rfl, _⟩ := h
    rfl
  · obtain ⟨v, d, rfl, th, ok, q⟩ := h
    have hu := hu_of hr
    refine ⟨_, (pss_cons (ps_if (pt_val (pe_callH G1 hr (by rfl) pass0 (pa_cons (pv 0) pa_nil))) (pss_one (ps_ret (pe_tup (pa_cons (pv 0) (pa_cons (pe_tup pa_nil) pa_nil))))) pss_nil)
      (pss_cons (ps_if (PW.pt (pw_or (pt_not (pt_val (pe_callH G2 hr (by rfl) pass0 (pa_cons (pv 0) (pa_cons pe_int pa_nil))))) (pw_or (pt_not (pt_val (pe_callH G1 hr (by rfl) pass0 (pa_cons (pe_ix ix_seq (pv 0) pe_int (fun _ _ => rfl)) pa_nil)))) (pw_or1 (pt_not (pt_val (pe_callH G3 hr (by rfl) pass0 (pa_cons (pe_ix ix_seq (pv 0) pe_int (fun _ _ => rfl)) pa_nil)))))))) (pss_one (ps_ret pe_non)) pss_nil)
      (pss_cons (ps_set (i := 1) scReadSum.nd rfl (.inl rfl) (pe_dnewT))
      (pss_cons (ps_for PassesOwn.never rfl (pi_seq (pe_ix ix_seq (pv 0) pe_int (fun _ _ => rfl))) (pg_name (i := 2) scReadSum.nd rfl (.inl rfl)) (pss_cons (ps_if (PW.pt (pw_or (pt_not (pt_val (pe_callH G2 hr (by rfl) pass0 (pa_cons (pv 2) (pa_cons pe_int pa_nil))))) (pw_or1 (pt_not (pt_val (pe_callH G1 hr (by rfl) pass0 (pa_cons (pe_ix ix_seq (pv 2) pe_int (fun _ _ => rfl)) pa_nil))))))) (pss_one (ps_ret pe_non)) pss_nil)
      (pss_cons (ps_set (i := 3) scReadSum.nd rfl (.inl rfl) (pe_callH G4 hr (by rfl) pass0 (pa_cons (pe_ix ix_seq (pv 2) pe_int (fun _ _ => rfl)) pa_nil)))
      (pss_cons (ps_if (pt_cmpR op_isN (pv 3) pe_non (nomark _)) (pss_one (ps_ret pe_non)) pss_nil)
      (pss_one (ps_dput hu (pv 1) (pv 3) (pe_op op_add (pe_dget2 hu (pv 1) (pv 3) pe_int ⟨rfl, rfl, rfl, rfl⟩) (pe_ix ix_seq (pv 2) pe_int (fun _ _ => rfl))) rfl))))))
      (pss_one (ps_ret (pe_callH G5 hr (by rfl) pass0 (pa_cons (pe_ix ix_seq (pv 0) pe_int (fun _ _ => rfl)) (pa_cons (pv 1) pa_nil))))))))), ?_⟩
    refine ⟨_, rfl, v, d, rfl, th, _, rfl, ?_⟩
    cases ei : isI d with
    | true =>
      obtain ⟨n, rfl⟩ : ∃ n, d = .int n := by
        cases d with
        | int n => exact ⟨n, rfl⟩
        | _ => cases ei
      obtain rfl : v = .int n := by
        cases th with
        | dat h => cases h; rfl
      refine iteT ⟨_, rfl, Nat.zero_le _, fun e he => ⟨(by show 2 ≤ sizeLine; decide), fun p hp => ?_⟩⟩
      refine q _ _ ((same_new he).trans (same_new hp)) ?_
      have ee : (upd (upd H e (.tup [])) p (.tup [.int n, .ref e])) e = some (.tup []) := same_new hp _ _ upd_same
      exact ⟨p, e, [], rfl, upd_same, ee, .nil⟩
    | false =>
      refine iteF ?_
      have rs : readSum d = match items d with
        | some [.int n, q] => (items q).bind fun ds => (readParts ds []).map fun kvs => (n, form kvs)
        | _ => none := by
        cases d with
        | int n => cases ei
        | _ => rfl
      refine ⟨_, rfl, v, d, 2, rfl, th, fun H1 sm1 => ⟨_, rfl, ?_⟩⟩
      cases e2 : isRof d 2 with
      | false =>
        refine iteT (q _ _ sm1 ?_)
        have z : readSum d = none := by
          rw [rs]
          split
          · rename_i n q' e
            exact absurd e (rof_not e2 _ _)
          · rfl
        rw [z]
        rfl
      | true =>
        refine iteF ?_
        obtain ⟨d1, dq, e3⟩ := rof_two e2
        obtain ⟨a, xs, rfl, hs, ha⟩ := th_row (th_same sm1 th) e3
        obtain ⟨v1, vq, rfl, h1, h2⟩ := dps_two ha
        refine ⟨_, rfl, ix_row hs (at2 0 v1 rfl) ?_⟩
        refine ⟨v1, d1, rfl, .dat h1, _, rfl, ?_⟩
        cases ei1 : isI d1 with
        | false =>
          refine iteT (q _ _ sm1 ?_)
          have z : readSum d = none := by
            rw [rs, e3]
            cases d1 with
            | int n => cases ei1
            | _ => rfl
          rw [z]
          rfl
        | true =>
          obtain ⟨n, rfl⟩ : ∃ n, d1 = .int n := by
            cases d1 with
            | int n => exact ⟨n, rfl⟩
            | _ => cases ei1
          cases h1
          rw [e3] at rs
          refine iteF ⟨_, rfl, ix_row hs (at2 1 vq rfl) ⟨vq, dq, rfl, .dat h2, fun H2 sm2 => ⟨_, rfl, ?_⟩⟩⟩
          rw [isR_items]
          cases e4 : items dq with
          | none =>
            refine iteT (q _ _ (sm1.trans sm2) ?_)
            have z : readSum d = none := by
              rw [rs]
              show (items dq).bind _ = none
              rw [e4]
              rfl
            rw [z]
            rfl
          | some ds =>
            obtain ⟨hlen, hok⟩ := ok n dq ds e3 e4
            have rs2 : readSum d = (readParts ds []).map fun kvs => (n, form kvs) := by
              rw [rs]
              show (items dq).bind _ = _
              rw [e4]
              rfl
            have hs2 := row_sq sm2 hs
            obtain ⟨b, ys, rfl, hb, hby⟩ := th_row (th_same sm2 (.dat h2)) e4
            refine iteF fun D hD => ?_
            have sm3 := sm1.trans (sm2.trans (same_new (o := .dT []) hD))
            refine ⟨_, rfl, ix_row (row_sq (same_new hD) hs2) (at2 1 _ rfl) ⟨b, ys, rfl, row_sq (same_new hD) hb, fun J G W hG => ?_⟩⟩
            have ly : ys.length = ds.length := dps_len hby
            have keyless : ∀ x ∈ ([] : Mul).map Prod.fst, NmU x := fun x hx => by simp at hx
            refine for_it W (fun i σ H4 => ∃ (acc : Mul) (p u : Option V), σ = [some (.ref a), some (.ref D), p, u] ∧ Same H2 H4 ∧ H4 D = some (.dT (vKv acc)) ∧ readParts (ds.take i) [] = some acc ∧ (∀ x ∈ acc.map Prod.fst, NmU x) ∧ acc.length ≤ i)
              ⟨[], none, none, rfl, same_new hD, upd_same, rfl, keyless, Nat.le_refl _⟩ (fun i σ H4 _ ⟨_, _, _, _, s4, _⟩ => hG H4 (fun z => sqL_same s4 (sqL_drop z)) (fun z => sqT_same s4 (sqT_drop z))) ?_ ?_
            · rintro i x σ H4 H4' hi ⟨acc, p, u, rfl, s4, hD4, hrp, hnm, hal⟩ ⟨rfl, hx⟩
              obtain ⟨dp, hdp, hxd⟩ := dps_get hby hx
              have hxd4 := dp_same s4 hxd
              have hokp := hok dp (List.mem_of_getElem? hdp)
              have stop : addPart acc dp = none → readSum d = none := by
                intro e
                rw [rs2, parts_stop hdp hrp e]
                rfl
              refine ⟨_, rfl, x, dp, 2, rfl, .dat hxd4, fun H5 s5 => ⟨_, rfl, ?_⟩⟩
              cases e5 : isRof dp 2 with
              | false =>
                refine iteT (q _ _ ((sm1.trans sm2).trans (s4.trans s5)) ?_)
                rw [stop (by
                  unfold addPart
                  split
                  · rename_i x' m' e
                    exact absurd e (rof_not e5 _ _)
                  · rfl)]
                rfl
              | true =>
                obtain ⟨pu, pm, e6⟩ := rof_two e5
                obtain ⟨c, zs, rfl, hc, hcd⟩ := th_row (.dat (dp_same s5 hxd4)) e6
                obtain ⟨w1, w2, rfl, g1, g2⟩ := dps_two hcd
                refine iteF ⟨_, rfl, ix_row hc (at2 1 w2 rfl) ⟨w2, pm, rfl, .dat g2, _, rfl, ?_⟩⟩
                cases e7 : isI pm with
                | false =>
                  refine iteT (q _ _ ((sm1.trans sm2).trans (s4.trans s5)) ?_)
                  rw [stop (by
                    unfold addPart
                    rw [e6]
                    cases pm with
                    | int m => cases e7
                    | _ => rfl)]
                  rfl
                | true =>
                  obtain ⟨m, rfl⟩ : ∃ m, pm = .int m := by
                    cases pm with
                    | int m => exact ⟨m, rfl⟩
                    | _ => cases e7
                  cases g2
                  obtain ⟨nl, shp, hnu⟩ := hokp pu m e6
                  refine iteF ⟨_, rfl, ix_row hc (at2 0 w1 rfl) ⟨w1, pu, rfl, .dat g1, nl, shp, fun vu H6 s6 hvu => ?_⟩⟩
                  have ea : addPart acc dp = (readUnk pu).map fun u => putI acc u (getI acc u + m) := by
                    unfold addPart
                    rw [e6]
                  cases e8 : readUnk pu with
                  | none =>
                    rw [e8] at hvu ea
                    obtain rfl : vu = .non := hvu
                    refine ⟨_, rfl, rfl, _, rfl, iteT (q _ _ ((sm1.trans sm2).trans ((s4.trans s5).trans s6)) ?_)⟩
                    rw [stop ea]
                    rfl
                  | some uu =>
                    rw [e8] at hvu ea
                    obtain ⟨au, rfl, hau⟩ := hvu
                    have hD6 : H6 D = some (.dT (vKv acc)) := s6 _ _ (s5 _ _ hD4)
                    refine ⟨_, rfl, rfl, _, rfl, iteF ?_⟩
                    refine ⟨_, rfl, D, rfl, .inr ⟨_, .inl hD6⟩, _, rfl, _, DGet.t hD6 hau, _, rfl, ix_row (row_sq s6 hc) (at2 1 _ rfl) ⟨getI acc uu, m, getD_val acc uu, rfl, ?_⟩⟩
                    have hi2 : i < ds.length := (List.getElem?_eq_some_iff.mp hdp).1
                    refine ⟨_, rfl, _, rfl, D, _, rfl, DPut.t hD6 hau (by
                      show (List.map _ acc).length < sizeLine
                      rw [List.length_map]
                      exact small1000 (by omega)), ?_⟩
                    rw [put_vKv]
                    refine ⟨_, _, _, rfl, fun b o e => ?_, upd_same, parts_more hdp hrp ea, putI_keys (hnu uu e8) hnm, Nat.le_trans (putI_len _ _ _) (by omega)⟩
                    rw [upd_ne (ne_of_none e hD)]
                    exact s6 _ _ (s5 _ _ (s4 _ _ e))
            · rintro σ H4 ⟨acc, p, u, rfl, s4, hD4, hrp, hnm, hal⟩
              rw [ly, List.take_length] at hrp
              rw [ly] at hal
              refine ⟨_, rfl, ix_row (row_sq s4 hs2) (at2 0 _ rfl) ⟨_, rfl, n, D, acc, rfl, hD4, hnm, by omega, fun v' H5 s5 hv => ?_⟩⟩
              refine q _ _ ((sm1.trans sm2).trans (s4.trans s5)) ?_
              rw [rs2, hrp]
              exact hv
end

/-! ### own errors of one field -/
/-- __init__ stores its argument under f -/
def spErrInit (K : PySem.W.Frag) (C : Addr) (f : Str) : Sp := fun vs H Q _ => ∃ a y, vs = [.ref a, y] ∧ H a = some (exo a C none) ∧ ∀ dx, H dx = none → dx ≠ a → Q .non (upd (upd H dx (exd dx [(f, y)])) a (exo a C (some dx)))
/-- what is known of such a class x at C -/
structure Err (P : Program) (w : World) (K : PySem.W.Frag) (mg : Str → Option Value) (base : Heap) (x : Str) (C : Addr) (f : Str) : Prop where
  g : mg x = some (.ref C)
  T : OexC K C
  no : PySem.W.findIn K (.ref C) f = some none
  xf : XfC K C
  te : PySem.W.exmOne K (.ref C) (.ref C) = some true
  ini : ∃ (fI : Addr) (fd : FuncData) (p2 : Str), PySem.W.findIn K (.ref C) "__init__" = some (some (.ref fI)) ∧ PySem.W.typeIn K (.ref fI) = some (.type "function") ∧ Binds K fd ["self", p2] [] ∧ FnOk P w K mg base CX0 1 fI fd ["self", p2] (spErrInit K C f)
theorem err_go {K : PySem.W.Frag} {C : Addr} {f : Str} {y : V} {H1 : Hp} {Q : XK} (q : ∀ dx, H1 dx = none → Q (.ref C) (some dx) (upd H1 dx (.xd [(f, y)]))) :
    [y].length ≤ 1000 ∧ ∀ a, H1 a = none → spErrInit K C f (.ref a :: ([y] ++ [])) (upd H1 a (exo a C none)) (fun v H2 => v = .non ∧ ∃ (d : Addr) (fs : List (Str × V)), H2 a = some (exo a C (some d)) ∧ H2 d = some (exd d fs) ∧ H1 d = none ∧ Q (.ref C) (some d) (upd (del H2 a) d (.xd fs))) (fun _ _ _ => False) := by
  refine ⟨(by show 1 ≤ 1000; decide), fun a ha => ⟨a, y, rfl, upd_same, fun dx hdx hne => ⟨rfl, dx, [(f, y)], upd_same, ?_, ?_, ?_⟩⟩⟩
  · rw [upd_ne hne, upd_same]
  · rw [upd_ne hne] at hdx
    exact hdx
  · have h1 : H1 dx = none := by
      rw [upd_ne hne] at hdx
      exact hdx
    have e : upd (del (upd (upd (upd H1 a (exo a C none)) dx (exd dx [(f, y)])) a (exo a C (some dx))) a) dx (.xd [(f, y)]) = upd H1 dx (.xd [(f, y)]) := by
      funext b
      by_cases hb : b = dx
      · rw [hb, upd_same, upd_same]
      · rw [upd_ne hb, upd_ne hb]
        by_cases hb2 : b = a
        · rw [hb2, del_same, ha]
        · rw [del_ne hb2, upd_ne hb2, upd_ne hb, upd_ne hb2]
    rw [e]
    exact q dx h1
def tRaise1 (K : PySem.W.Frag) (C : Addr) (f : Str) (te : TE) (W : WX) : TS := fun _ σ H => tMkO C (spErrInit K C f) [] (tCons te tNil) σ H fun cls d H' => W cls d σ H'
theorem ps_err {X : Cx} {W : WX} {x f : Str} {C : Addr} {e : Expr} {te : TE} {p pos pos2 : Pos} {k : Nat} (hc : X.calm = true) (tk : Takes X W) (T : Err X.prog X.w X.K X.mg X.base x C f) (hr : Room k X.A) (h2 : 2 ≤ k) (he : PE X e te) (hg : Gl X x := by rfl)
    (hdb : (x == ("__debug__" : Str)) = false := by decide) (hs : starEach (e :: []) X.env = (false, eval e X.env) :: starEach [] X.env := by rfl) (hpl : (backTo pos (starEach [] X.env)).any (·.1) = false := by rfl) :
    PS X (.Raise (some (.Call (.Name x p) [e] [] pos)) none pos2) (tRaise1 X.K C f te W) := by
  obtain ⟨fI, fd, p2, iC, tI, hb, F⟩ := T.ini
  exact ps_raise (pos := pos2) hc tk (pmk_oex (p := p) (pos := pos) T.T iC tI F (hr.mono h2) hb .nil pass0 hg T.g (pa_cons he pa_nil hs) hdb hs hpl)
/-- their __init__ -/
abbrev sIniS : Stmt := inClass (topS 3) 0
abbrev sIniF : Stmt := inClass (topS 4) 0
theorem scIniS : FnScope ["self", "thing"] ["self", "thing"] (defScope sIniS) := ⟨rfl, rfl, rfl, by decide +kernel, rfl, by decide +kernel, by decide +kernel⟩
theorem scIniF : FnScope ["self", "name"] ["self", "name"] (defScope sIniF) := ⟨rfl, rfl, rfl, by decide +kernel, rfl, by decide +kernel, by decide +kernel⟩
/-- behind a loop-free way: what is raised -/
def spSumOf (K : PySem.W.Frag) (CS : Addr) : Sp := fun vs H Q E => ∃ v d, vs = [v] ∧ Th K H v d ∧ okSum d ∧ (∀ n ps, readSum d = some (n, ps) → ∀ v' H', Same H H' → SumT H' v' n ps → Q v' H') ∧
  (readSum d = none → ∀ H' dx, Same H H' → H' dx = none → E (.ref CS) (some dx) (upd H' dx (.xd [("thing", v)])))
abbrev sSumOf : Stmt := topS 23
theorem scSumOf : FnScope ["thing", "found"] ["thing"] (defScope sSumOf) := ⟨rfl, rfl, rfl, by decide +kernel, rfl, by decide +kernel, by decide +kernel⟩
theorem sumT_not_non {H : Hp} {v : V} {n : Int} {ps : Mul} (h : SumT H v n ps) : decide (v = .non) = false := by
  obtain ⟨a, b, xs, rfl, _⟩ := h
  rfl
section
variable {P : Program} {w : World} {K : PySem.W.Frag} {mg : Str → Option Value} {base : Heap}
theorem ok_iniS {f C : Addr} {fd : FuncData} (F : Fun K "__init__" "BadSum.__init__" sIniS f fd) (T : OexC K C) (no : PySem.W.findIn K (.ref C) "thing" = some none) : FnOk P w K mg base CX0 1 f fd ["self", "thing"] (spErrInit K C "thing") := by
  refine F.ok scIniS (fun vs H Q E h => ?_) (fun cdv A outer s H vs Q E hr h => ?_)
  · obtain ⟨a, y, rfl, _⟩ := h
    rfl
  · obtain ⟨a, y, rfl, ha, q⟩ := h
    exact ⟨_, pss_one (ps_ost (pv 0) (pv 1)), _, rfl, _, rfl, a, C, rfl, T, no, .inl ⟨ha, q⟩⟩
theorem ok_iniF {f C : Addr} {fd : FuncData} (F : Fun K "__init__" "BadField.__init__" sIniF f fd) (T : OexC K C) (no : PySem.W.findIn K (.ref C) "name" = some none) : FnOk P w K mg base CX0 1 f fd ["self", "name"] (spErrInit K C "name") := by
  refine F.ok scIniF (fun vs H Q E h => ?_) (fun cdv A outer s H vs Q E hr h => ?_)
  · obtain ⟨a, y, rfl, _⟩ := h
    rfl
  · obtain ⟨a, y, rfl, ha, q⟩ := h
    exact ⟨_, pss_one (ps_ost (pv 0) (pv 1)), _, rfl, _, rfl, a, C, rfl, T, no, .inl ⟨ha, q⟩⟩
theorem ok_sumOf {f CS : Addr} {fd : FuncData} (F : Fun K "sum_of" "sum_of" sSumOf f fd) (S : Err P w K mg base "BadSum" CS "thing") (G : Has P w K mg base CX0 4 "read_sum" ["thing"] (spReadSum K)) : FnOk P w K mg base (L2.CX P w) 5 f fd ["thing"] (spSumOf K CS) := by
  refine F.okX scSumOf (fun vs H Q E h => ?_) (fun cdv A outer s H vs Q E hr h => ?_)
  · obtain ⟨v, d, rfl, _⟩ := h
    rfl
  · obtain ⟨v, d, rfl, th, ok, q, qe⟩ := h
    refine ⟨_, (pss_cons (ps_set (i := 1) scSumOf.nd rfl (.inl rfl) (pe_callH G hr (by rfl) pass0 (pa_cons (pv 0) pa_nil)))
      (pss_cons (ps_if (pt_cmpR op_isN (pv 1) pe_non (nomark _)) (pss_one (ps_err rfl (takes_of rfl rfl rfl rfl) S hr (by decide) (pv 0))) pss_nil)
      (pss_one (ps_ret (pv 1))))), ?_⟩
    refine ⟨_, rfl, v, d, rfl, th, ok, fun v' H1 s1 hv => ⟨_, rfl, rfl, _, rfl, ?_⟩⟩
    cases e : readSum d with
    | none =>
      rw [e] at hv
      obtain rfl : v' = .non := hv
      exact iteT ⟨_, rfl, err_go fun dx hdx => qe e H1 dx s1 hdx⟩
    | some r =>
      obtain ⟨n, ps⟩ := r
      rw [e] at hv
      rw [sumT_not_non hv]
      exact iteF ⟨_, rfl, q n ps e v' H1 s1 hv⟩
end

def upTo (d : PyData) (m : Int) : Bool := match d with
  | .int i => decide (0 ≤ i) && decide (i ≤ m)
  | _ => false
def intOf : PyData → Int
  | .int i => i
  | _ => 0
def badF (c x y d : PyData) : Option Str := if upTo c 31 = false then some "code" else if upTo x 7 = false then some "x" else if upTo y 7 = false then some "y" else if isI d = false then some "d" else none
def codeI (c x y d : PyData) : Int := intOf c + 32 * intOf x + 256 * intOf y + 2048 * intOf d
def spUpTo (K : PySem.W.Frag) : Sp := fun vs H Q _ => ∃ v d m, vs = [v, .int m] ∧ Th K H v d ∧ Q (.bl (upTo d m)) H
def spCoded (K : PySem.W.Frag) (CF : Addr) : Sp := fun vs H Q E => ∃ v1 v2 v3 v4 d1 d2 d3 d4, vs = [v1, v2, v3, v4] ∧ Th K H v1 d1 ∧ Th K H v2 d2 ∧ Th K H v3 d3 ∧ Th K H v4 d4 ∧
  (badF d1 d2 d3 d4 = none → Q (.int (codeI d1 d2 d3 d4)) H) ∧ (∀ s, badF d1 d2 d3 d4 = some s → ∀ dx, H dx = none → E (.ref CF) (some dx) (upd H dx (.xd [("name", .str s)])))
abbrev sUpTo : Stmt := topS 29
abbrev sCoded : Stmt := topS 30
theorem scUpTo : FnScope ["thing", "most"] ["thing", "most"] (defScope sUpTo) := ⟨rfl, rfl, rfl, by decide +kernel, rfl, by decide +kernel, by decide +kernel⟩
theorem scCoded : FnScope ["code", "x", "y", "d"] ["code", "x", "y", "d"] (defScope sCoded) := ⟨rfl, rfl, rfl, by decide +kernel, rfl, by decide +kernel, by decide +kernel⟩
theorem upTo_int {d : PyData} {m : Int} {K : PySem.W.Frag} {H : Hp} {v : V} (h : upTo d m = true) (th : Th K H v d) : v = .int (intOf d) := by
  cases d with
  | int i =>
    cases th with
    | dat h => cases h; rfl
  | _ => cases h
theorem isI_int {d : PyData} {K : PySem.W.Frag} {H : Hp} {v : V} (h : isI d = true) (th : Th K H v d) : v = .int (intOf d) := by
  cases d with
  | int i =>
    cases th with
    | dat h => cases h; rfl
  | _ => cases h
section
variable {P : Program} {w : World} {K : PySem.W.Frag} {mg : Str → Option Value} {base : Heap}
theorem ok_upTo {f : Addr} {fd : FuncData} (F : Fun K "is_up_to" "is_up_to" sUpTo f fd) (G : Has P w K mg base CX0 1 "is_integer" ["thing"] (spIsInt K)) : FnOk P w K mg base CX0 2 f fd ["thing", "most"] (spUpTo K) := by
  refine F.ok scUpTo (fun vs H Q E h => ?_) (fun cdv A outer s H vs Q E hr h => ?_)
  · obtain ⟨v, d, m, rfl, _⟩ := h
    rfl
  · obtain ⟨v, d, m, rfl, th, q⟩ := h
    refine ⟨_, (pss_one (ps_ret (pe_and (pe_callH G hr (by rfl) pass0 (pa_cons (pv 0) pa_nil)) (pe_one (pe_chain op_le op_le pe_int (pv 0) (pv 1)))))), ?_⟩
    refine ⟨_, rfl, v, d, rfl, th, _, rfl, ?_⟩
    cases e : isI d with
    | false =>
      have z : upTo d m = false := by cases d <;> first | rfl | cases e
      rw [z] at q
      exact iteF q
    | true =>
      obtain rfl := isI_int e th
      have z : upTo d m = (decide (0 ≤ intOf d) && decide (intOf d ≤ m)) := by cases d <;> first | rfl | cases e
      rw [z] at q
      refine iteT ⟨_, rfl, _, _, rfl, rfl, _, rfl, ?_⟩
      cases c : decide (0 ≤ intOf d) with
      | false =>
        rw [c] at q
        exact iteF q
      | true =>
        rw [c] at q
        exact iteT ⟨_, rfl, _, _, rfl, rfl, q⟩
theorem ok_coded {f CF : Addr} {fd : FuncData} {dvs : List V} (F : FunD K "coded" "coded" (defArgs sCoded) (defBody sCoded) (defScope sCoded) dvs [] f fd) (S : Err P w K mg base "BadField" CF "name") (G1 : Has P w K mg base CX0 2 "is_up_to" ["thing", "most"] (spUpTo K))
    (G2 : Has P w K mg base CX0 2 "is_integer" ["thing"] (spIsInt K)) : FnOk P w K mg base (L2.CX P w) 4 f fd ["code", "x", "y", "d"] (spCoded K CF) := by
  refine F.ok scCoded (fun vs H Q E h => ?_) (fun cdv A outer s H vs Q E hr h => ?_)
  · obtain ⟨v1, v2, v3, v4, d1, d2, d3, d4, rfl, _⟩ := h
    rfl
  · obtain ⟨v1, v2, v3, v4, d1, d2, d3, d4, rfl, t1, t2, t3, t4, q, qe⟩ := h
    have hr2 : Room 2 _ := hr.mono (by decide)
    refine ⟨_, (pss_cons (ps_if (pt_not (pt_val (pe_callH G1 hr2 (by rfl) pass0 (pa_cons (pv 0) (pa_cons pe_int pa_nil))))) (pss_one (ps_err rfl (takes_of rfl rfl rfl rfl) S hr2 (by decide) pe_str)) pss_nil)
      (pss_cons (ps_if (pt_not (pt_val (pe_callH G1 hr2 (by rfl) pass0 (pa_cons (pv 1) (pa_cons pe_int pa_nil))))) (pss_one (ps_err rfl (takes_of rfl rfl rfl rfl) S hr2 (by decide) pe_str)) pss_nil)
      (pss_cons (ps_if (pt_not (pt_val (pe_callH G1 hr2 (by rfl) pass0 (pa_cons (pv 2) (pa_cons pe_int pa_nil))))) (pss_one (ps_err rfl (takes_of rfl rfl rfl rfl) S hr2 (by decide) pe_str)) pss_nil)
      (pss_cons (ps_if (pt_not (pt_val (pe_callH G2 hr2 (by rfl) pass0 (pa_cons (pv 3) pa_nil)))) (pss_one (ps_err rfl (takes_of rfl rfl rfl rfl) S hr2 (by decide) pe_str)) pss_nil)
      (pss_one (ps_ret (pe_op op_add (pe_op op_add (pe_op op_add (pv 0) (pe_op op_mul pe_int (pv 1))) (pe_op op_mul pe_int (pv 2))) (pe_op op_mul pe_int (pv 3))))))))), ?_⟩
    refine ⟨_, rfl, v1, d1, _, rfl, t1, _, rfl, ?_⟩
    cases e1 : upTo d1 31 with
    | false => exact iteT (err_go fun dx hdx => qe "code" (by unfold badF; rw [if_pos e1]) dx hdx)
    | true =>
    refine iteF ⟨_, rfl, v2, d2, _, rfl, t2, _, rfl, ?_⟩
    have n1 : ¬ upTo d1 31 = false := by rw [e1]; exact Bool.noConfusion
    cases e2 : upTo d2 7 with
    | false => exact iteT (err_go fun dx hdx => qe "x" (by unfold badF; rw [if_neg n1, if_pos e2]) dx hdx)
    | true =>
    refine iteF ⟨_, rfl, v3, d3, _, rfl, t3, _, rfl, ?_⟩
    have n2 : ¬ upTo d2 7 = false := by rw [e2]; exact Bool.noConfusion
    cases e3 : upTo d3 7 with
    | false => exact iteT (err_go fun dx hdx => qe "y" (by unfold badF; rw [if_neg n1, if_neg n2, if_pos e3]) dx hdx)
    | true =>
    refine iteF ⟨_, rfl, v4, d4, rfl, t4, _, rfl, ?_⟩
    have n3 : ¬ upTo d3 7 = false := by rw [e3]; exact Bool.noConfusion
    cases e4 : isI d4 with
    | false => exact iteT (err_go fun dx hdx => qe "d" (by unfold badF; rw [if_neg n1, if_neg n2, if_neg n3, if_pos e4]) dx hdx)
    | true =>
      have n4 : ¬ isI d4 = false := by rw [e4]; exact Bool.noConfusion
      obtain rfl := upTo_int e1 t1
      obtain rfl := upTo_int e2 t2
      obtain rfl := upTo_int e3 t3
      obtain rfl := isI_int e4 t4
      refine iteF ⟨_, rfl, _, rfl, _, _, rfl, rfl, .inl ⟨by decide, by decide⟩, _, _, rfl, rfl, _, rfl, _, _, rfl, rfl, .inl ⟨by decide, by decide⟩, _, _, rfl, rfl, _, rfl, _, _, rfl, rfl, .inl ⟨by decide, by decide⟩, _, _, rfl, rfl, ?_⟩
      exact q (by unfold badF; rw [if_neg n1, if_neg n2, if_neg n3, if_neg n4])
end

/-! ### the order of unknowns -/
theorem data_tot {β : Type} (k : β → PyData) : PySem.W.TotalLe (PySem.W.dataLe false k) := by
  unfold PySem.W.dataLe
  exact PySem.W.sortLe_total _ _ _
theorem tot_or {β : Type} {r : β → β → Bool} (h : PySem.W.TotalLe r) (a b : β) : (r a b || r b a) = true := by
  rcases h.total a b with h | h
  · rw [h]
    rfl
  · rw [h, Bool.or_true]
theorem le2_trans : ∀ a b c, le2 a b = true → le2 b c = true → le2 a c = true := (data_tot keyD).trans
theorem le2_total : ∀ a b, (le2 a b || le2 b a) = true := tot_or (data_tot keyD)
theorem str_lt_irr (z : Str) : ¬ z.cps.toList < z.cps.toList := List.lt_irrefl _
theorem str_anti {z z' : Str} (h1 : ¬ z.cps.toList < z'.cps.toList) (h2 : ¬ z'.cps.toList < z.cps.toList) : z = z' := by
  have e : z.cps.toList = z'.cps.toList := List.le_antisymm (List.not_lt.mp h2) (List.not_lt.mp h1)
  obtain ⟨⟨l⟩⟩ := z
  obtain ⟨⟨l'⟩⟩ := z'
  have e' : l = l' := e
  rw [e']
theorem lt_is (i i' : Int) (z z' : Str) : PySem.W.dataLt (.tuple [.int i, .str z]) (.tuple [.int i', .str z']) = decide (i < i' ∨ (i = i' ∧ z.cps.toList < z'.cps.toList)) := by
  rw [PySem.W.dataLt_pair (by simp [PySem.W.alike]) (by simp [PySem.W.alike]), PySem.W.dataLt_int, PySem.W.dataLt_str]
  simp only [PyData.eqv, beq_iff_eq]
  by_cases h1 : i = i'
  · by_cases h2 : z = z'
    · subst h1 h2
      simp [str_lt_irr]
    · simp [h1, h2]
  · simp [h1]
theorem lt_ss (k k' z z' : Str) : PySem.W.dataLt (.tuple [.str k, .str z]) (.tuple [.str k', .str z']) = decide (k.cps.toList < k'.cps.toList ∨ (k = k' ∧ z.cps.toList < z'.cps.toList)) := by
  rw [PySem.W.dataLt_pair (by simp [PySem.W.alike]) (by simp [PySem.W.alike]), PySem.W.dataLt_str, PySem.W.dataLt_str]
  simp only [PyData.eqv, beq_iff_eq]
  by_cases h1 : k = k'
  · by_cases h2 : z = z'
    · subst h1 h2
      simp [str_lt_irr]
    · subst h1
      have z : ¬ k.cps < k.cps := str_lt_irr k
      simp [h2, z]
  · simp [h1]
theorem le2_is {k k' z z' : Str} : le2 [.inr k, .inr z] [.inr k', .inr z'] = !decide ((rank k').getD 0 < (rank k).getD 0 ∨ ((rank k').getD 0 = (rank k).getD 0 ∧ z'.cps.toList < z.cps.toList)) := by
  show (!PySem.W.dataLt (keyD [.inr k', .inr z']) (keyD [.inr k, .inr z])) = _
  show (!PySem.W.dataLt (.tuple [.int ((rank k').getD 0), .str z']) (.tuple [.int ((rank k).getD 0), .str z])) = _
  rw [lt_is]
theorem not_of {p : Prop} [Decidable p] (h : (!decide p) = true) : ¬ p := fun z => by
  rw [decide_eq_true z] at h
  cases h
theorem rank_inj {k k' : Str} (h : (rank k).isSome = true) (h' : (rank k').isSome = true) (e : (rank k).getD 0 = (rank k').getD 0) : k = k' := by
  unfold rank at *
  by_cases a1 : k = sPiece <;> by_cases a2 : k = sName <;> by_cases a3 : k = sIn <;> by_cases b1 : k' = sPiece <;> by_cases b2 : k' = sName <;> by_cases b3 : k' = sIn <;> simp_all
theorem le2_anti : ∀ a b, NmU a → NmU b → le2 a b = true → le2 b a = true → a = b := by
  rintro a b ⟨k, z, rfl, hk⟩ ⟨k', z', rfl, hk'⟩ h1 h2
  rw [le2_is] at h1 h2
  have g1 := not_of h1
  have g2 := not_of h2
  rw [not_or] at g1 g2
  have er : (rank k).getD 0 = (rank k').getD 0 := by omega
  have ek := rank_inj hk hk' er
  subst ek
  have ez : z = z' := str_anti (fun l => g2.2 ⟨rfl, l⟩) (fun l => g1.2 ⟨rfl, l⟩)
  rw [ez]
/-! ### sums as sums over their parts -/
/-- the parts' worth, each unknown worth F of it -/
def lin (F : List Key → Int) : Mul → Int
  | [] => 0
  | p :: l => p.2 * F p.1 + lin F l
theorem lin_app (F : List Key → Int) : ∀ l m : Mul, lin F (l ++ m) = lin F l + lin F m
  | [], m => by simp [lin]
  | p :: l, m => by
    show p.2 * F p.1 + lin F (l ++ m) = _
    rw [lin_app F l m]
    simp only [lin]
    omega
def NodK (l : Mul) : Prop := (l.map (·.1)).Nodup
theorem getI_nil (u : List Key) : getI [] u = 0 := rfl
theorem getI_cons (p : List Key × Int) (l : Mul) (u : List Key) : getI (p :: l) u = if p.1 = u then p.2 else getI l u := by
  unfold getI
  rw [List.find?_cons]
  by_cases h : p.1 = u
  · simp [h]
  · simp [h]
theorem getI_not {l : Mul} {u : List Key} (h : u ∉ l.map (·.1)) : getI l u = 0 := by
  induction l with
  | nil => rfl
  | cons p l ih =>
    rw [List.map_cons, List.mem_cons, not_or] at h
    rw [getI_cons, if_neg fun e => h.1 e.symm]
    exact ih h.2
theorem any_key {l : Mul} {u : List Key} : (l.any fun kv => decide (kv.1 = u)) = true ↔ u ∈ l.map (·.1) := by
  rw [List.any_eq_true, List.mem_map]
  constructor
  · rintro ⟨p, hp, e⟩
    exact ⟨p, hp, of_decide_eq_true e⟩
  · rintro ⟨p, hp, e⟩
    exact ⟨p, hp, decide_eq_true e⟩
theorem map_not {l : Mul} {u : List Key} (m : Int) (h : u ∉ l.map (·.1)) : l.map (fun kv => if kv.1 = u then (kv.1, m) else kv) = l := by
  induction l with
  | nil => rfl
  | cons p l ih =>
    rw [List.map_cons, List.mem_cons, not_or] at h
    rw [List.map_cons, ih h.2, if_neg fun e => h.1 e.symm]
theorem putI_in {l : Mul} {u : List Key} (m : Int) (h : u ∈ l.map (·.1)) : (putI l u m).map (·.1) = l.map (·.1) := by
  unfold putI
  rw [if_pos (any_key.mpr h), List.map_map]
  apply List.map_congr_left
  intro p _
  show (if p.1 = u then (p.1, m) else p).1 = p.1
  split <;> rfl
theorem putI_out {l : Mul} {u : List Key} (m : Int) (h : u ∉ l.map (·.1)) : putI l u m = l ++ [(u, m)] := by
  unfold putI
  rw [if_neg (fun z => h (any_key.mp z))]
theorem nodK_put {l : Mul} (h : NodK l) (u : List Key) (m : Int) : NodK (putI l u m) := by
  unfold NodK
  cases Classical.em (u ∈ l.map (·.1)) with
  | inl z =>
    rw [putI_in m z]
    exact h
  | inr z =>
    rw [putI_out m z, List.map_append]
    refine List.nodup_append.mpr ⟨h, (by simp), fun a ha b hb e => ?_⟩
    have hb' : b = u := by simpa using hb
    exact z (hb' ▸ e ▸ ha)
theorem lin_map {F : List Key → Int} {u : List Key} {m : Int} : ∀ {l : Mul}, NodK l → u ∈ l.map (·.1) → lin F (l.map (fun kv => if kv.1 = u then (kv.1, m) else kv)) = lin F l + (m - getI l u) * F u
  | [], _, h => by simp at h
  | p :: l, nd, h => by
    have nd' := List.nodup_cons.mp (show (p.1 :: l.map (·.1)).Nodup from nd)
    rw [List.map_cons]
    by_cases c : p.1 = u
    · rw [if_pos c, map_not m (c ▸ nd'.1), getI_cons, if_pos c]
      show m * F p.1 + lin F l = p.2 * F p.1 + lin F l + _
      rw [c, Int.sub_mul]
      omega
    · have h2 : u ∈ l.map (·.1) := by
        rcases List.mem_cons.mp h with z | z
        · exact absurd z.symm c
        · exact z
      rw [if_neg c, getI_cons, if_neg c]
      show p.2 * F p.1 + lin F _ = p.2 * F p.1 + lin F l + _
      rw [lin_map nd'.2 h2]
      omega
theorem lin_put {F : List Key → Int} {l : Mul} (nd : NodK l) (u : List Key) (m : Int) : lin F (putI l u (getI l u + m)) = lin F l + m * F u := by
  unfold putI
  by_cases h : u ∈ l.map (·.1)
  · rw [if_pos (any_key.mpr h), lin_map nd h]
    have e : getI l u + m - getI l u = m := by omega
    rw [e]
  · rw [if_neg (fun z => h (any_key.mp z)), lin_app, getI_not h]
    simp [lin]
/-- whether it is v -/
def isU (v : List Key) (u : List Key) : Int := if u = v then 1 else 0
theorem getI_lin {l : Mul} (nd : NodK l) (v : List Key) : getI l v = lin (isU v) l := by
  induction l with
  | nil => rfl
  | cons p l ih =>
    have nd' := List.nodup_cons.mp (show (p.1 :: l.map (·.1)).Nodup from nd)
    rw [getI_cons]
    show _ = p.2 * isU v p.1 + lin (isU v) l
    rw [← ih nd'.2]
    unfold isU
    by_cases c : p.1 = v
    · rw [if_pos c, if_pos c, getI_not (c ▸ nd'.1)]
      omega
    · rw [if_neg c, if_neg c]
      omega
theorem lin_perm {F : List Key → Int} {l m : Mul} (h : l.Perm m) : lin F l = lin F m := by
  induction h with
  | nil => rfl
  | cons x _ ih => simp only [lin, ih]
  | swap x y l =>
    simp only [lin]
    omega
  | trans _ _ i1 i2 => exact i1.trans i2
theorem lin_keys {F : List Key → Int} (g : List Key → Int) : ∀ us : List (List Key), lin F ((us.filter fun u => !decide (g u = 0)).map fun u => (u, g u)) = lin F (us.map fun u => (u, g u))
  | [] => rfl
  | u :: us => by
    rw [List.filter_cons, List.map_cons]
    show _ = g u * F u + lin F _
    rw [← lin_keys g us]
    by_cases c : g u = 0
    · simp [c]
    · simp [c, lin]
theorem lin_self {F : List Key → Int} : ∀ {l : Mul}, NodK l → (l.map (·.1)).map (fun u => (u, getI l u)) = l
  | [], _ => rfl
  | p :: l, nd => by
    have nd' := List.nodup_cons.mp (show (p.1 :: l.map (·.1)).Nodup from nd)
    rw [List.map_cons, List.map_cons, getI_cons, if_pos rfl]
    refine congrArg (p :: ·) (Eq.trans ?_ (lin_self (F := F) nd'.2))
    apply List.map_congr_left
    intro u hu
    rw [getI_cons, if_neg]
    intro e
    exact nd'.1 (e ▸ hu)
theorem lin_form {F : List Key → Int} {l : Mul} (nd : NodK l) : lin F (form l) = lin F l := by
  unfold form
  rw [lin_perm ((List.mergeSort_perm (keysN l) le2).map fun u => (u, getI l u))]
  unfold keysN
  rw [lin_keys (getI l), lin_self (F := F) nd]
theorem keysN_mem {l : Mul} {u : List Key} : u ∈ keysN l ↔ getI l u ≠ 0 := by
  unfold keysN
  rw [List.mem_filter]
  constructor
  · rintro ⟨_, h⟩ e
    simp [e] at h
  · intro h
    refine ⟨?_, by simp [h]⟩
    cases Classical.em (u ∈ l.map (·.1)) with
    | inl z => exact z
    | inr z => exact absurd (getI_not z) h
theorem keysN_nod {l : Mul} (nd : NodK l) : (keysN l).Nodup := List.Nodup.sublist List.filter_sublist nd
def NmK (l : Mul) : Prop := ∀ u ∈ l.map (·.1), NmU u
theorem keysN_nm {l : Mul} (h : NmK l) : ∀ u ∈ keysN l, NmU u := fun u hu => h u (List.mem_filter.mp hu).1
/-- a row of unknowns in order is the one in order -/
theorem sort_one {us vs : List (List Key)} (h : ∀ u ∈ us, NmU u) (p : us.Perm vs) (o : us.Pairwise fun a b => le2 a b = true) : vs.mergeSort le2 = us := by
  have pm : us.Perm (vs.mergeSort le2) := p.trans (List.mergeSort_perm vs le2).symm
  have o2 : (vs.mergeSort le2).Pairwise fun a b => le2 a b = true := List.pairwise_mergeSort le2_trans le2_total vs
  exact (pm.eq_of_pairwise (fun a b ha hb h1 h2 => le2_anti a b (h a ha) (h b (pm.mem_iff.mpr hb)) h1 h2) o o2).symm
theorem form_eq {l m : Mul} (nl : NodK l) (nm : NodK m) (kl : NmK l) (e : ∀ u, getI l u = getI m u) : form l = form m := by
  have hp : (keysN l).Perm (keysN m) := (List.perm_ext_iff_of_nodup (keysN_nod nl) (keysN_nod nm)).mpr fun u => by rw [keysN_mem, keysN_mem, e u]
  have q : (keysN m).mergeSort le2 = (keysN l).mergeSort le2 := by
    refine sort_one (fun u hu => keysN_nm kl u ((List.mergeSort_perm _ _).mem_iff.mp hu)) ((List.mergeSort_perm _ _).trans hp) ?_
    exact List.pairwise_mergeSort le2_trans le2_total _
  unfold form
  rw [q]
  apply List.map_congr_left
  intro u _
  rw [e u]
/-! ### the law's own form -/
/-- unknowns as tuples in their order -/
def leT : List Key → List Key → Bool := PySem.W.dataLe false unkD
def isK (k : Str) (u : List Key) : Bool := match u with
  | [.inr k', .inr _] => decide (k' = k)
  | _ => false
/-- a piece or a name -/
def PnU (u : List Key) : Prop := ∃ k z, u = [.inr k, .inr z] ∧ (k = sPiece ∨ k = sName)
theorem pn_nm {u : List Key} (h : PnU u) : NmU u := by
  obtain ⟨k, z, rfl, h⟩ := h
  refine ⟨k, z, rfl, ?_⟩
  rcases h with rfl | rfl <;> decide +kernel
def partsT (kvs : Mul) : Mul := ((((kvs.map (·.1)).mergeSort leT).filter fun u => isK sPiece u && !decide (getI kvs u = 0)) ++ (((kvs.map (·.1)).mergeSort leT).filter fun u => isK sName u && !decide (getI kvs u = 0))).map fun u => (u, getI kvs u)
theorem leT_is {k k' z z' : Str} : leT [.inr k, .inr z] [.inr k', .inr z'] = !decide (k'.cps.toList < k.cps.toList ∨ (k' = k ∧ z'.cps.toList < z.cps.toList)) := by
  show (!PySem.W.dataLt (.tuple [.str k', .str z']) (.tuple [.str k, .str z])) = _
  rw [lt_ss]
theorem leT_pw (us : List (List Key)) : (us.mergeSort leT).Pairwise fun a b => leT a b = true := List.pairwise_mergeSort (data_tot unkD).trans (tot_or (data_tot unkD)) us
theorem isK_kind {k : Str} {u : List Key} (h : isK k u = true) : ∃ z, u = [.inr k, .inr z] := by
  unfold isK at h
  split at h
  · rename_i k' z
    exact ⟨z, by rw [of_decide_eq_true h]⟩
  · cases h
theorem same_kind {k : Str} {a b : List Key} (ha : isK k a = true) (hb : isK k b = true) (h : leT a b = true) : le2 a b = true := by
  obtain ⟨z, rfl⟩ := isK_kind ha
  obtain ⟨z', rfl⟩ := isK_kind hb
  rw [leT_is] at h
  rw [le2_is]
  have g := not_of h
  rw [not_or] at g
  have g2 : ¬ ((rank k).getD 0 < (rank k).getD 0 ∨ ((rank k).getD 0 = (rank k).getD 0 ∧ z'.cps.toList < z.cps.toList)) := by
    rintro (c | ⟨_, c⟩)
    · exact absurd c (Int.lt_irrefl _)
    · exact g.2 ⟨rfl, c⟩
  rw [decide_eq_false g2]
  rfl
theorem other_kind {a b : List Key} (ha : isK sPiece a = true) (hb : isK sName b = true) : le2 a b = true := by
  obtain ⟨z, rfl⟩ := isK_kind ha
  obtain ⟨z', rfl⟩ := isK_kind hb
  rw [le2_is]
  have e1 : (rank sPiece).getD 0 = 0 := by decide +kernel
  have e2 : (rank sName).getD 0 = 1 := by decide +kernel
  rw [e1, e2]
  rw [decide_eq_false (by omega)]
  rfl
theorem filt_pw {k : Str} {us : List (List Key)} (q : List Key → Bool) (h : us.Pairwise fun a b => leT a b = true) : (us.filter fun u => isK k u && q u).Pairwise fun a b => le2 a b = true := by
  refine List.Pairwise.imp_of_mem (R := fun a b => leT a b = true) (fun {a b} ha hb z => ?_) (h.sublist List.filter_sublist)
  have h1 := (List.mem_filter.mp ha).2
  have h2 := (List.mem_filter.mp hb).2
  rw [Bool.and_eq_true] at h1 h2
  exact same_kind h1.1 h2.1 z
theorem isK_not {u : List Key} (h : PnU u) : isK sName u = !isK sPiece u := by
  obtain ⟨k, z, rfl, h⟩ := h
  rcases h with rfl | rfl
  · show decide (sPiece = sName) = !decide (sPiece = sPiece)
    decide +kernel
  · show decide (sName = sName) = !decide (sName = sPiece)
    decide +kernel
theorem filt_split {q : List Key → Bool} : ∀ {us : List (List Key)}, (∀ u ∈ us, PnU u) → ((us.filter fun u => isK sPiece u && q u) ++ (us.filter fun u => isK sName u && q u)).Perm (us.filter q) := by
  intro us h
  have e1 : (us.filter fun u => isK sPiece u && q u) = (us.filter q).filter (isK sPiece) := by
    rw [List.filter_filter]
  have e2 : (us.filter fun u => isK sName u && q u) = (us.filter q).filter (fun u => !isK sPiece u) := by
    rw [List.filter_filter]
    apply List.filter_congr
    intro u hu
    rw [isK_not (h u hu)]
  rw [e1, e2]
  exact List.filter_append_perm _ _
theorem partsT_form {kvs : Mul} (h : ∀ u ∈ kvs.map (·.1), PnU u) : partsT kvs = form kvs := by
  have hs : ∀ u ∈ (kvs.map (·.1)).mergeSort leT, PnU u := fun u hu => h u ((List.mergeSort_perm _ _).mem_iff.mp hu)
  have pw := leT_pw (kvs.map (·.1))
  have e := sort_one (us := (((kvs.map (·.1)).mergeSort leT).filter fun u => isK sPiece u && !decide (getI kvs u = 0)) ++ (((kvs.map (·.1)).mergeSort leT).filter fun u => isK sName u && !decide (getI kvs u = 0))) (vs := keysN kvs) (fun u hu => ?_) ?_ ?_
  · unfold partsT form
    rw [e]
  · rcases List.mem_append.mp hu with z | z
    · exact pn_nm (hs u (List.mem_filter.mp z).1)
    · exact pn_nm (hs u (List.mem_filter.mp z).1)
  · refine (filt_split (q := fun u => !decide (getI kvs u = 0)) hs).trans ?_
    unfold keysN
    exact (List.mergeSort_perm _ _).filter _
  · refine List.pairwise_append.mpr ⟨filt_pw _ pw, filt_pw _ pw, fun a ha b hb => ?_⟩
    have h1 := (List.mem_filter.mp ha).2
    have h2 := (List.mem_filter.mp hb).2
    rw [Bool.and_eq_true] at h1 h2
    exact other_kind h1.1 h2.1
/-! ### what is put in -/
/-- one part added -/
def addP (kvs : Mul) (u : List Key) (m : Int) : Mul := putI kvs u (getI kvs u + m)
/-- a number and parts, labels put in: g tells a label's address -/
def putIn (g : Str → Option Int) (p : Str) (s : Int × Mul) (q : List Key × Int) : Int × Mul := match q.1 with
  | [.inr k, .inr z] => if k = sName then (match g z with
    | some o => (s.1 + q.2 * o, addP s.2 [.inr sPiece, .inr p] q.2)
    | none => (s.1, addP s.2 q.1 q.2)) else (s.1, addP s.2 q.1 q.2)
  | _ => (s.1, addP s.2 q.1 q.2)
/-- what an unknown is put in as, and its worth -/
def subU (g : Str → Option Int) (p : Str) (u : List Key) : List Key := match u with
  | [.inr k, .inr z] => if k = sName ∧ (g z).isSome = true then [.inr sPiece, .inr p] else u
  | _ => u
def subN (g : Str → Option Int) (u : List Key) : Int := match u with
  | [.inr k, .inr z] => if k = sName then (g z).getD 0 else 0
  | _ => 0
theorem putIn_eq (g : Str → Option Int) (p : Str) (s : Int × Mul) (q : List Key × Int) : putIn g p s q = (s.1 + q.2 * subN g q.1, addP s.2 (subU g p q.1) q.2) := by
  obtain ⟨u, m⟩ := q
  have z : ∀ a : Int, a = a + m * 0 := fun a => by omega
  match u with
  | [.inr k, .inr y] =>
    unfold putIn subN subU
    by_cases c : k = sName
    · subst c
      cases hg : g y with
      | none => simp [hg]
      | some o => simp [hg]
    · simp [c]
  | [] => exact congrArg (·, _) (z _)
  | [.inl _] => exact congrArg (·, _) (z _)
  | [.inr _] => exact congrArg (·, _) (z _)
  | [.inl _, _] => exact congrArg (·, _) (z _)
  | [.inr _, .inl _] => exact congrArg (·, _) (z _)
  | .inl _ :: _ :: _ :: _ => exact congrArg (·, _) (z _)
  | .inr _ :: .inl _ :: _ :: _ => exact congrArg (·, _) (z _)
  | .inr _ :: .inr _ :: _ :: _ => exact congrArg (·, _) (z _)
def putAll (g : Str → Option Int) (p : Str) (n : Int) (l : Mul) : Int × Mul := l.foldl (putIn g p) (n, [])
theorem putAll_go (g : Str → Option Int) (p : Str) : ∀ (l : Mul) (s : Int × Mul), NodK s.2 → (l.foldl (putIn g p) s).1 = s.1 + lin (subN g) l ∧ NodK (l.foldl (putIn g p) s).2 ∧ ∀ F, lin F (l.foldl (putIn g p) s).2 = lin F s.2 + lin (fun u => F (subU g p u)) l
  | [], s, nd => ⟨by simp [lin], nd, fun F => by simp [lin]⟩
  | q :: l, s, nd => by
    rw [List.foldl_cons]
    have nd2 : NodK (putIn g p s q).2 := by
      rw [putIn_eq]
      exact nodK_put nd _ _
    obtain ⟨h1, h2, h3⟩ := putAll_go g p l (putIn g p s q) nd2
    refine ⟨?_, h2, fun F => ?_⟩
    · rw [h1, putIn_eq]
      simp only [lin]
      omega
    · rw [h3 F, putIn_eq]
      unfold addP
      rw [lin_put nd]
      simp only [lin]
      omega
theorem putAll_eq {g : Str → Option Int} {p : Str} {n : Int} {l m : Mul} (h : ∀ F, lin F l = lin F m) : (putAll g p n l).1 = (putAll g p n m).1 ∧ ∀ u, getI (putAll g p n l).2 u = getI (putAll g p n m).2 u := by
  have nd : NodK ((n, []) : Int × Mul).2 := List.nodup_nil
  obtain ⟨a1, a2, a3⟩ := putAll_go g p l (n, []) nd
  obtain ⟨b1, b2, b3⟩ := putAll_go g p m (n, []) nd
  refine ⟨?_, fun u => ?_⟩
  · unfold putAll
    rw [a1, b1, h]
  · unfold putAll
    rw [getI_lin a2, getI_lin b2, a3, b3, h]
theorem addP_keys {l : Mul} {u : List Key} {m : Int} {Pr : List Key → Prop} (h : ∀ x ∈ l.map (·.1), Pr x) (hu : Pr u) : ∀ x ∈ (addP l u m).map (·.1), Pr x := by
  unfold addP
  intro x hx
  cases Classical.em (u ∈ l.map (·.1)) with
  | inl z =>
    rw [putI_in _ z] at hx
    exact h x hx
  | inr z =>
    rw [putI_out _ z, List.map_append] at hx
    rcases List.mem_append.mp hx with hx | hx
    · exact h x hx
    · have e : x = u := by simpa using hx
      rw [e]
      exact hu
theorem subU_pn {g : Str → Option Int} {p : Str} {u : List Key} (h : PnU u) : PnU (subU g p u) := by
  obtain ⟨k, z, rfl, hk⟩ := h
  unfold subU
  dsimp only
  split
  · exact ⟨_, _, rfl, .inl rfl⟩
  · exact ⟨k, z, rfl, hk⟩
theorem putAll_pn {g : Str → Option Int} {p : Str} : ∀ {l : Mul} {s : Int × Mul}, (∀ u ∈ l.map (·.1), PnU u) → (∀ u ∈ s.2.map (·.1), PnU u) → ∀ u ∈ (l.foldl (putIn g p) s).2.map (·.1), PnU u
  | [], s, _, h => h
  | q :: l, s, hl, h => by
    rw [List.foldl_cons]
    refine putAll_pn (fun u hu => hl u (List.mem_cons_of_mem _ hu)) ?_
    rw [putIn_eq]
    exact addP_keys h (subU_pn (hl q.1 (List.mem_cons_self ..)))
theorem addP_len (l : Mul) (u : List Key) (m : Int) : (addP l u m).length ≤ l.length + 1 := putI_len _ _ _
theorem putAll_len {g : Str → Option Int} {p : Str} : ∀ (l : Mul) (s : Int × Mul), (l.foldl (putIn g p) s).2.length ≤ s.2.length + l.length
  | [], s => Nat.le_refl _
  | q :: l, s => by
    rw [List.foldl_cons]
    refine Nat.le_trans (putAll_len l _) ?_
    rw [putIn_eq, List.length_cons]
    have := addP_len s.2 (subU g p q.1) q.2
    show (addP s.2 _ _).length + _ ≤ _
    omega
/-- the parts of a sum, added up -/
def accAll (l : Mul) : Mul := l.foldl (fun a q => addP a q.1 q.2) []
theorem acc_go : ∀ (l s : Mul), NodK s → NodK (l.foldl (fun a q => addP a q.1 q.2) s) ∧ ∀ F, lin F (l.foldl (fun a q => addP a q.1 q.2) s) = lin F s + lin F l
  | [], s, nd => ⟨nd, fun F => by simp [lin]⟩
  | q :: l, s, nd => by
    rw [List.foldl_cons]
    obtain ⟨h1, h2⟩ := acc_go l (addP s q.1 q.2) (nodK_put nd _ _)
    refine ⟨h1, fun F => ?_⟩
    rw [h2 F]
    unfold addP
    rw [lin_put nd]
    simp only [lin]
    omega
theorem acc_lin (l : Mul) (F : List Key → Int) : lin F (form (accAll l)) = lin F l := by
  obtain ⟨h1, h2⟩ := acc_go l [] List.nodup_nil
  unfold accAll
  rw [lin_form h1, h2]
  simp [lin]
/-- what the program's way and the law's way come to is one -/
theorem ways_one {g : Str → Option Int} {p : Str} {n : Int} {l : Mul} (h : ∀ u ∈ l.map (·.1), PnU u) : (putAll g p n (form (accAll l))).1 = (putAll g p n l).1 ∧ form (putAll g p n (form (accAll l))).2 = partsT (putAll g p n l).2 := by
  obtain ⟨e1, e2⟩ := putAll_eq (g := g) (p := p) (n := n) (l := form (accAll l)) (m := l) (acc_lin l)
  have nd : NodK ((n, []) : Int × Mul).2 := List.nodup_nil
  have k2 : ∀ u ∈ (putAll g p n l).2.map (·.1), PnU u := putAll_pn h (fun u hu => by simp at hu)
  refine ⟨e1, ?_⟩
  rw [partsT_form k2]
  refine (form_eq (putAll_go g p l (n, []) nd).2.1 (putAll_go g p _ (n, []) nd).2.1 (fun u hu => pn_nm (k2 u hu)) fun u => (e2 u).symm).symm

/-! ### dict comprehensions whose keys are tuples -/
/-- the heap behind D[y] = z, y a tuple -/
def PutT (D : Addr) (y z : V) (Ha Hb : Hp) : Prop := ∃ (ks : List (List Key × V)) (u : List Key) (b : Addr), Ha D = some (.dT ks) ∧ y = .ref b ∧ Ha b = some (.tup (u.map kV)) ∧ ks.length < sizeLine ∧ Hb = upd Ha D (.dT (putK ks u z))
theorem run_putT {X : Cx} {pn : List (Addr × Obj)} {σ : L2.St} {Ha Hb : Hp} {s : Shared} {Er : Value → Shared → Prop} {D : Addr} {y z : V} {vy vz : Value} {Fi : Unit → Shared → Prop} (hu : X.A.units + 1 < cLine) (I : Inv X pn σ Ha s) (g : PutT D y z Ha Hb)
    (r1 : L2.RelV y vy) (r2 : L2.RelV z vz) (go : ∀ s', Inv X pn σ Hb s' → Fi () s') : wpAny (model X.prog X.w) X.A (dictSet D vy vz) Fi Er s := by
  obtain ⟨ks, u, b, hD, rfl, hb, few, rfl⟩ := g
  obtain rfl : vy = Value.ref b := r1
  obtain ⟨size, notM, xs, pr, isD⟩ := dt_of I.hok hD
  have lx : xs.length ≤ sizeLine := (Paired.length pr) ▸ size
  have few2 : (putK ks u z).length ≤ sizeLine := Nat.le_trans (length_putK ks u z) few
  refine wpAny_dictSet_heap (hsz := lx) (show (tupleKind (mixKind X.prog X.w)).room X.A from Nat.lt_of_succ_lt hu) (key_of I.hok hb) isD fun g2 isD2 same => go _ ?_
  obtain ⟨ob, en, epo, i1, i2, i3, i4, _, i6⟩ := isD2
  have stays : ∀ c us, Ha c = some (.tup us) → upd Ha D (.dT (putK ks u z)) c = some (.tup us) := fun c us ec => by
    rw [upd_ne (ne_of ec hD (fun e => nomatch e))]
    exact ec
  exact d_write I (by rw [hD]; trivial) same ⟨ob, i1⟩ ⟨few2, notM, _, (pr.put u hb r2).keeps fun c us ec => stays c us ec, ob, en, epo, i1, i2, i3, i4, i6⟩
/-- one turn of such a comprehension -/
def turnT (g : TG) (tt : TT) (tk tv : TE) (σ0 : L2.St) (vs : List Nat) (D : Addr) (Nx : Hp → Prop) (x : V) (Ha : Hp) : Prop :=
  g x (wipe σ0 vs) Ha fun σ1 Hb => wipe σ1 vs = wipe σ0 vs ∧ tt σ1 Hb fun b Hc => if b = true then tk σ1 Hc fun y Hd => tv σ1 Hd fun z He => ∃ Hf, PutT D y z He Hf ∧ Nx Hf else Nx Hc
/-- what is asked of such a comprehension -/
def tDt (wi : TI) (g : TG) (tt : TT) (tk tv : TE) (vs : List Nat) : TE := fun σ H Q => wi σ H fun J Ha => ∀ D, Ha D = none → ∃ W : Nat → Nat → Hp → Prop, (∃ n, W 0 n (upd Ha D (.dT []))) ∧
  ∀ j n Hb, W j n Hb → (J.stop j Hb ∧ Q (.ref D) Hb) ∨ (J.go j Hb ∧ ∃ Nx : Hp → Prop, (∀ Hc, Nx Hc → ∃ n', n' < n ∧ W (j + 1) n' Hc) ∧ ∀ x Hc, J.yld j Hb x Hc → turnT g tt tk tv σ vs D Nx x Hc)
section
variable {X : Cx}
theorem run_dt {pn : List (Addr × Obj)} {s : Shared} {σ : L2.St} {H : Hp} {Q : VK} {ke ve tg src : Expr} {conds : List Expr} {sc : Scope} {own : List (Str × Nat)} {po po' : Pos} {wi : TI} {g : TG} {tt : TT} {tk tv : TE} {use : Option (Value → Sem Unit)} {Fi : Value → Shared → Prop}
    (hu : X.A.units + 1 < cLine) (calm : X.calm = true) (nod : X.N.Nodup) (I : Inv X pn σ H s) (walks : PI X tg src wi) (blk : BlkOk X.N X.env.scope sc own)
    (rg : ∀ (s : Shared) (H : Hp) (C : Addr) (cl : List (Str × Addr)) (fp : List Addr), PG (X.blk s H sc (compEnvC sc cl C X.env) fp) tg g) (rt : ∀ (s : Shared) (H : Hp) (C : Addr) (cl : List (Str × Addr)) (fp : List Addr), PTs (X.blk s H sc (compEnvC sc cl C X.env) fp) conds tt)
    (rk : ∀ (s : Shared) (H : Hp) (C : Addr) (cl : List (Str × Addr)) (fp : List Addr), PE (X.blk s H sc (compEnvC sc cl C X.env) fp) ke tk) (rv : ∀ (s : Shared) (H : Hp) (C : Addr) (cl : List (Str × Addr)) (fp : List Addr), PE (X.blk s H sc (compEnvC sc cl C X.env) fp) ve tv)
    (fold : ∀ x, foldedSetIterable src X.env x = pure x) (asks : tDt wi g tt tk tv (own.map (·.2)) σ H Q)
    (last : ∀ D C s' m H', Inv X pn σ H' s' → Q (.ref D) H' → s'.heap.Ns C m → FpOk X pn H' C → compPost (model X.prog X.w) X.A X.xe use Fi (.ref D) C (.ok .next) s') :
    wpAny (model X.prog X.w) X.A (comprehension (.DictComp ke ve [⟨tg, src, conds, 0⟩] sc po) sc X.env po' newDict false (eval src X.env) use) Fi X.xe s := by
  have freeOk : ∀ y ∈ sc.names, y.2 = .free → ∃ c, X.env.cells.lookup y.1 = some c := fun y hy e => (blk.free y hy e).elim (fun k => I.ok.has _ (.inl k)) fun k => I.ok.has _ (.inr k)
  refine wpAny_comprehension_free (use := use) rfl fold (closure_ok freeOk) blk.kind (fun y hy e => by rw [blk.uniq y hy, e]) (thn (walks.run pn s σ H _ I asks) fun _ sa ha => thn ha fun _ sb hb => ?_)
  obtain ⟨it, fp, tn, J, Hb, rfl, Ib, T, stb, fpb, q⟩ := hb
  refine wpAny_newObj_type (newEnv_comp ?_)
  -- the new dict
  have freeD : Hb sb.heap.objs.size = none := Ib.hok.fresh (Nat.le_refl _)
  obtain ⟨W, ⟨n0, w0⟩, turns⟩ := q _ freeD
  have Ic : Inv X pn σ (upd Hb sb.heap.objs.size (.dT [])) { sb with heap := sb.heap.push { cls := .type "dict", data := .dict #[] } } := Ib.laid (t' := sb.toks) (fun _ _ e => Heap.get?_push_of_some _ e) (Nat.le_refl _) (dt_empty sb.heap Ib.big)
  generalize eD : sb.heap.objs.size = D at freeD w0 turns Ic ⊢
  generalize ec : ({ sb with heap := sb.heap.push { cls := .type "dict", data := .dict #[] } } : Shared) = c at Ic
  have hc : c.heap = sb.heap.push { cls := .type "dict", data := .dict #[] } := by rw [← ec]
  have below : ∀ b ∈ fp, b < D := fun b hb => by
    obtain ⟨o, e, _⟩ := T.obj _ _ stb b hb
    rw [← eD]
    exact Heap.lt_size e
  generalize eH : upd Hb D (.dT []) = Hc at Ic w0
  have fpc : ∀ b ∈ fp, FpOk X pn Hc b ∧ b < c.heap.objs.size := fun b hb => by
    have lt := below b hb
    refine ⟨⟨?_, (fpb b hb).2⟩, ?_⟩
    · rw [← eH, upd_ne (Nat.ne_of_lt lt)]
      exact (fpb b hb).1
    · rw [hc, Heap.size_push, eD]
      exact Nat.lt_succ_of_lt lt
  have stc : tn 0 c.heap := T.keep _ _ _ stb fun b _ o e => by
    rw [hc]
    exact Heap.get?_push_of_some _ e
  have Id := block_start Ic blk nod fpc
  -- the block
  generalize eE : compEnvC sc (cellsFrom (c.heap.objs.size + 1) sc.names (cloFrom X.env.cells sc.names [])) c.heap.objs.size X.env = en at Id
  have pg : PG (X.blk c Hc sc en fp) tg g := eE ▸ rg c Hc _ _ fp
  have pt : PTs (X.blk c Hc sc en fp) conds tt := eE ▸ rt c Hc _ _ fp
  have pk : PE (X.blk c Hc sc en fp) ke tk := eE ▸ rk c Hc _ _ fp
  have pv' : PE (X.blk c Hc sc en fp) ve tv := eE ▸ rv c Hc _ _ fp
  have locs : en.locals = c.heap.objs.size := by rw [← eE]; rfl
  have quiet : ∀ b ∈ fp, Hc b = none := fun b hb => (fpc b hb).1.1
  generalize ed : ({ c with heap := pushCells (c.heap.push { cls := .type "dict", data := .dict #[] }) sc.names } : Shared) = d at Id
  have std : tn 0 d.heap := T.keep _ _ _ stc fun b _ o e => by
    rw [← ed]
    exact pushCells_keeps _ _ _ _ (Heap.get?_push_of_some _ e)
  have fpIn : ∀ {σ' : L2.St} {H' : Hp} {s' : Shared}, Inv (X.blk c Hc sc en fp) [] σ' H' s' → (∀ b ∈ fp, H' b = none) → ∀ b ∈ fp, FpOk (X.blk c Hc sc en fp) [] H' b := fun I' q b hb =>
    ⟨q b hb, (I'.ok.exf b hb).1, I'.ok.exfs b hb, .inl hb, fun x y e => (I'.ok.exf b hb).2 x y e, fun p hp => absurd (show p ∈ ([] : List (Addr × Obj)) ++ [] from hp) (by simp)⟩
  have goes : codeAny (model X.prog X.w) X.A (.compLoop (.DictComp ke ve [⟨tg, src, conds, 0⟩] sc po) 0 (.ref it) (.ref D) en) (compPost (model X.prog X.w) X.A X.xe use Fi (.ref D) c.heap.objs.size) d := by
    refine compLoop_anyD (fun n s' => ∃ j H', Inv (X.blk c Hc sc en fp) [] (wipe σ (own.map (·.2))) H' s' ∧ tn j s'.heap ∧ (∀ b ∈ fp, H' b = none) ∧ W j n H') (fun n s5 hs5 => ?_) n0 ⟨0, Hc, Id, std, quiet, w0⟩
    obtain ⟨j, H5, I5, st5, n5, w5⟩ := hs5
    rcases turns j n H5 w5 with ⟨over, qq⟩ | ⟨on, Nx, next, step⟩
    · refine thnF (T.done (X.blk c Hc sc en fp) rfl rfl rfl calm j [] s5 _ H5 (fun _ _ => False) I5 (fpIn I5 n5) st5 over) fun r s6 h6 => ?_
      obtain ⟨rfl, I6⟩ := h6
      have outer : Inv X pn σ H5 s6 := Ic.call' (ch := fp) I6.os I6.base I6.hok I6.bare fun b hb => by
        obtain ⟨⟨k0, k1, k2, k3, k4, k5⟩, _⟩ := fpc b hb
        exact ⟨k3, k1, k4, k5⟩
      have nL : H5 c.heap.objs.size = none := by
        rw [← locs]
        exact I6.free
      obtain ⟨m, hm, _⟩ := I6.loc
      have hm' : s6.heap.Ns c.heap.objs.size m := by
        rw [← locs]
        exact hm
      exact last D _ s6 m H5 outer qq hm' (Ic.fpOk (Nat.le_refl _) nL)
    · refine thnF (T.item (X.blk c Hc sc en fp) rfl rfl rfl calm j [] s5 _ H5 (fun _ _ => False) I5 (fpIn I5 n5) st5 on) fun r s6 h6 => ?_
      obtain ⟨u, rfl, h6⟩ := h6
      refine thnF h6 fun _ s7 h7 => ?_
      obtain ⟨x, H7, I7, r7, y7, st7, n7⟩ := h7
      refine thnF (pg.run _ s7 _ H7 x u _ (I7.pinned (fpIn I7 n7) (T.obj _ _ st7)) r7 (step x H7 y7)) fun _ s8 h8 => ?_
      obtain ⟨σ8, H8, I8, wip, q8⟩ := h8
      have over : ∀ {s' : Shared} {H' : Hp}, Inv (X.blk c Hc sc en fp) ([] ++ pinsAt fp s7.heap) σ8 H' s' → Nx H' → ∃ m, m < n ∧ ∃ j H', Inv (X.blk c Hc sc en fp) [] (wipe σ (own.map (·.2))) H' s' ∧ tn j s'.heap ∧ (∀ b ∈ fp, H' b = none) ∧ W j m H' := by
        intro s' H' I' nx
        obtain ⟨m', lt, w'⟩ := next H' nx
        have pinned : ∀ b ∈ fp, ∀ o, s7.heap.get? b = some o → s'.heap.get? b = some o ∧ H' b = none := fun b hb o e => by
          have z := I'.pin (b, o) (List.mem_append_right _ (List.mem_append_right _ (mem_pinsAt hb e)))
          exact ⟨z.1, z.2.1⟩
        refine ⟨m', lt, j + 1, H', (I'.unpinned (pins := [])).weak ?_ ?_, T.keep _ _ _ st7 fun b hb o e => (pinned b hb o e).1, fun b hb => ?_, w'⟩
        · rw [← wip, wipe_length]
        · intro i v e
          rw [← wip] at e
          exact (wipe_some e).1
        · obtain ⟨o, e, _⟩ := T.obj _ _ st7 b hb
          exact (pinned b hb o e).2
      refine thnF (pt.run _ s8 σ8 H8 _ I8 q8) fun b s9 h9 => ?_
      obtain ⟨H9, I9, q9⟩ := h9
      cases b with
      | false =>
        rw [if_neg Bool.false_ne_true] at q9 ⊢
        exact over I9 q9
      | true =>
        rw [if_pos rfl] at q9 ⊢
        refine thnF (pk.run _ s9 σ8 H9 _ I9 q9) fun _ s10 h10 => ?_
        obtain ⟨yk, H10, I10, r10, q10⟩ := h10
        refine thnF (pv'.run _ s10 σ8 H10 _ I10 q10) fun _ s11 h11 => ?_
        obtain ⟨yv, H11, I11, r11, Hf, put, nx⟩ := h11
        exact run_putT (X := X.blk c Hc sc en fp) hu I11 put r10 r11 fun s12 I12 => over I12 nx
  subst eE
  exact codeAny_compStart_dict goes (T.self X.A 0 _ _ _ std goes)
/-- such a comprehension as a value -/
theorem pe_dt {ke ve tg src : Expr} {conds : List Expr} {sc : Scope} {own : List (Str × Nat)} {po : Pos} {wi : TI} {g : TG} {tt : TT} {tk tv : TE} (hu : X.A.units + 1 < cLine) (calm : X.calm = true) (nod : X.N.Nodup) (walks : PI X tg src wi) (blk : BlkOk X.N X.env.scope sc own)
    (rg : ∀ (s : Shared) (H : Hp) (C : Addr) (cl : List (Str × Addr)) (fp : List Addr), PG (X.blk s H sc (compEnvC sc cl C X.env) fp) tg g) (rt : ∀ (s : Shared) (H : Hp) (C : Addr) (cl : List (Str × Addr)) (fp : List Addr), PTs (X.blk s H sc (compEnvC sc cl C X.env) fp) conds tt)
    (rk : ∀ (s : Shared) (H : Hp) (C : Addr) (cl : List (Str × Addr)) (fp : List Addr), PE (X.blk s H sc (compEnvC sc cl C X.env) fp) ke tk) (rv : ∀ (s : Shared) (H : Hp) (C : Addr) (cl : List (Str × Addr)) (fp : List Addr), PE (X.blk s H sc (compEnvC sc cl C X.env) fp) ve tv)
    (fold : ∀ x, foldedSetIterable src X.env x = pure x := by intro _; rfl) : PE X (.DictComp ke ve [⟨tg, src, conds, 0⟩] sc po) (tDt wi g tt tk tv (own.map (·.2))) := by
  constructor
  intro pn s σ H Q I asks
  rw [arm_eval_DictComp]
  refine run_dt hu calm nod I walks blk rg rt rk rv fold asks fun D C s' m H' I' q hm f => ⟨m, hm, fun g2 sb => ?_⟩
  obtain ⟨k0, k1, k2, k3, k4, k5⟩ := f
  exact ⟨.ref D, H', I'.turned (t' := s'.toks) (fun b o hb e => (sb.2 b hb).trans e) k0 k1 k3 k4 k5, rfl, q⟩
end
/-- over any walk -/
theorem dt_it {J : It} {n : Nat} {G : Hp → Prop} {Y : Nat → Hp → V → Hp → Prop} (w : Walk J n G Y) {g : TG} {tt : TT} {tk tv : TE} {vs : List Nat} {σ : L2.St} {Ha : Hp} {D : Addr} {Qd : Hp → Prop} (Pv : Nat → Hp → Prop) (zero : Pv 0 (upd Ha D (.dT []))) (stand : ∀ i H, i ≤ n → Pv i H → G H)
    (turn : ∀ i x H H', i < n → Pv i H → Y i H x H' → turnT g tt tk tv σ vs D (Pv (i + 1)) x H') (last : ∀ H, Pv n H → Qd H) :
    ∃ W : Nat → Nat → Hp → Prop, (∃ m, W 0 m (upd Ha D (.dT []))) ∧ ∀ j m Hb, W j m Hb → (J.stop j Hb ∧ Qd Hb) ∨ (J.go j Hb ∧ ∃ Nx : Hp → Prop, (∀ Hc, Nx Hc → ∃ n', n' < m ∧ W (j + 1) n' Hc) ∧ ∀ x Hc, J.yld j Hb x Hc → turnT g tt tk tv σ vs D Nx x Hc) := by
  refine ⟨fun j m Hb => m = n - j ∧ j ≤ n ∧ Pv j Hb, ⟨n, rfl, Nat.zero_le _, zero⟩, ?_⟩
  rintro j m Hb ⟨rfl, le, p⟩
  have q := stand j Hb le p
  rcases Nat.lt_or_eq_of_le le with lt | rfl
  · exact .inr ⟨w.goes j Hb lt q, Pv (j + 1), fun Hc p' => ⟨n - (j + 1), by omega, rfl, lt, p'⟩, fun x Hc y => turn j x Hb Hc lt p (w.yields j Hb x Hc lt q y)⟩
  · exact .inl ⟨w.stops Hb q, last Hb p⟩

/-! ### sorted(d), d a dict whose keys are unknowns -/
theorem reads_unk {h : Heap} {v : Value} {u : List Key} (x : UnkH h v u) (n : NmU u) : ∃ as, Reads h v (unkD u) as := by
  obtain ⟨a, k, o, v1, v2, rfl, rfl, hk, ⟨ot, g1, g2, m, g3⟩, ⟨t1, rfl⟩, r2⟩ := x
  obtain ⟨k', z, e, _⟩ := n
  have eo : o = .inr z := by
    have := (List.cons.inj (List.cons.inj e).2).1
    exact this
  subst eo
  obtain ⟨t2, rfl⟩ := r2
  exact ⟨[] ++ ([] ++ []), .tuple g1 g2 g3 (.cons (.str k t1) (.cons (.str z t2) .nil))⟩
theorem alike_unk {us : List (List Key)} (h : ∀ u ∈ us, NmU u) : PySem.W.AllAlike (us.map unkD) := by
  intro d hd d' hd'
  obtain ⟨u, hu, rfl⟩ := List.mem_map.mp hd
  obtain ⟨u', hu', rfl⟩ := List.mem_map.mp hd'
  obtain ⟨k, z, rfl, _⟩ := h u hu
  obtain ⟨k', z', rfl, _⟩ := h u' hu'
  rfl
theorem sortable_unk {us : List (List Key)} (h : ∀ u ∈ us, NmU u) : PySem.W.Sortable (us.map unkD) := .inl fun d hd => by
  obtain ⟨u, hu, rfl⟩ := List.mem_map.mp hd
  obtain ⟨k, z, rfl, _⟩ := h u hu
  exact ⟨_, _, rfl⟩
theorem pair_each {H : Hp} : ∀ {ks : List (List Key × V)} {xs : List (List Key × Addr × Value)}, Paired (fun (p : List Key × V) (q : List Key × Addr × Value) => p.1 = q.1 ∧ H q.2.1 = some (.tup (p.1.map kV)) ∧ L2.RelV p.2 q.2.2) ks xs →
    PySem.W.EachIs (fun v u => ∃ y, L2.RelV y v ∧ UnkAt H y u) (xs.map fun x => Value.ref x.2.1) (ks.map (·.1))
  | _, _, .nil => .nil
  | _, _, .cons h t => .cons ⟨.ref _, rfl, _, rfl, h.2.1⟩ (pair_each t)
theorem each_imp {α β : Type} {R S : α → β → Prop} : ∀ {as : List α} {bs : List β}, (∀ a b, b ∈ bs → R a b → S a b) → PySem.W.EachIs R as bs → PySem.W.EachIs S as bs
  | _, _, _, .nil => .nil
  | _, _, f, .cons h t => .cons (f _ _ (List.mem_cons_self ..) h) (each_imp (fun a b hb => f a b (List.mem_cons_of_mem _ hb)) t)
def rSortedDT : List V → Hp → VK → Prop := fun vs H Q => ∃ (d : Addr) (ks : List (List Key × V)), vs = [.ref d] ∧ Rd H d (.dT ks) ∧ (∀ u ∈ ks.map (·.1), NmU u) ∧ ks.length ≤ 1000 ∧
  ∀ (ys : List V) (p : Addr), PySem.W.EachIs (UnkAt H) ys ((ks.map (·.1)).mergeSort leT) → H p = none → Q (.ref p) (upd H p (.lst ys))
theorem cr_sortedDT {X : Cx} {k : Nat} (hr : Room k X.A) (calm : X.calm = true) : CallR X (.builtin "sorted") rSortedDT := by
  intro pn s σ H vs us Q I r h
  obtain ⟨d, ks, rfl, hd, nm, few, q⟩ := h
  obtain rfl := Vals.ref1 r
  obtain ⟨z, notM, xs, pr, o, es, ep, ho, hx, hdt, he, hn⟩ := (show ObjOk X.prog X.w H s.heap d (.dT ks) from hd.ok I.hok)
  have l1 : es.size = xs.length := size_of_entries he
  have l2 : ks.length = xs.length := Paired.length pr
  refine Calls.call_function_entry kind_sorted plain_sorted entry_sorted (args_sorted1 _) ?_
  unfold Builtin.«sorted»
  refine wpAny_bind (m := checkCount "sorted" 1 1 _) (wpAny_pure ?_)
  refine wpAny_bind (PySem.W.kdu_collect (A := X.A.in1) (kdl_raw notM hx hdt) (I.ok.hd calm) ho (by omega) fun g tk acc kp it => ?_)
  have ea : acc.toList = xs.map fun x => Value.ref x.2.1 := by
    have hl : acc.toList.length = xs.length := by rw [Array.length_toList, it.1]; exact l1
    apply List.ext_getElem?
    intro j
    rw [List.getElem?_map]
    cases hj : acc.toList[j]? with
    | none =>
      rw [List.getElem?_eq_none (by rw [← hl]; exact List.getElem?_eq_none_iff.mp hj)]
      rfl
    | some v =>
      obtain ⟨en, hen, hv⟩ := it.2 j v (by rw [← Array.getElem?_toList]; exact hj)
      have qe := entry_at he j
      rw [hen] at qe
      cases hb : xs[j]? with
      | none => rw [hb] at qe; cases qe
      | some b =>
        rw [hb] at qe
        have e2 : en = entryOfKey (tupleKind (mixKind X.prog X.w)) b := Option.some.inj qe
        rw [hv, e2]
        rfl
  have are : PySem.W.EachIs (fun v u => ∃ y, L2.RelV y v ∧ UnkAt H y u) acc.toList (ks.map (·.1)) := by
    rw [ea]
    exact pair_each pr
  have len : acc.toList.length = (ks.map (·.1)).length := are.length
  have small : acc.toList.length ≤ sizeLine := by
    rw [len, List.length_map]
    exact sz1000 few
  have I1 : Inv X pn σ H { s with heap := g, toks := tk } := I.kept kp
  refine wpAny_bind (wpAny_newList ?_ small)
  have hoL : (g.push (seqObj "list" acc.toList.toArray 0)).get? g.objs.size = some (seqObj "list" acc.toList.toArray 0) := Heap.get?_push_size _ rfl
  show wpAny _ _ _ _ _ { s with heap := g.push (seqObj "list" acc.toList.toArray 0), toks := tk }
  have old : ∀ {b : Addr} {ob : Obj}, g.get? b = some ob → (PySem.W.sortingHeap (g.push (seqObj "list" acc.toList.toArray 0)) g.objs.size acc.toList).get? b = some ob := fun {b ob} e =>
    PySem.W.sortingHeap_old (Nat.ne_of_lt (Heap.lt_size e)) (Heap.get?_push_of_some _ e)
  have rd : PySem.W.EachIs (fun v u => ∃ as, Reads (PySem.W.sortingHeap (g.push (seqObj "list" acc.toList.toArray 0)) g.objs.size acc.toList) v (unkD u) as) acc.toList (ks.map (·.1)) :=
    each_imp (fun v u hu hy => by
      obtain ⟨y, ry, hy⟩ := hy
      exact reads_unk (unkH_keeps (fun b ob e => old e) (unkH_of I1 ry hy (nm u hu))) (nm u hu)) are
  have hal := alike_unk nm
  have S : PySem.W.SortsAt X.prog X.w X.A.in1.in1 { s with heap := PySem.W.sortingHeap (g.push (seqObj "list" acc.toList.toArray 0)) g.objs.size acc.toList, toks := tk } (PySem.W.dataKind (PySem.W.sortingHeap (g.push (seqObj "list" acc.toList.toArray 0)) g.objs.size acc.toList) ((ks.map (·.1)).map unkD)) acc.toList :=
    PySem.W.SortsAt.data (s := { s with heap := PySem.W.sortingHeap (g.push (seqObj "list" acc.toList.toArray 0)) g.objs.size acc.toList, toks := tk }) (PySem.W.each_map (R := fun v d => ∃ as, Reads (PySem.W.sortingHeap (g.push (seqObj "list" acc.toList.toArray 0)) g.objs.size acc.toList) v d as) unkD rd) hal (sortable_unk nm) fun d hd => by
      obtain ⟨u, hu, rfl⟩ := List.mem_map.mp hd
      obtain ⟨k1, z1, rfl, _⟩ := nm u hu
      have hd5 : (unkD [.inr k1, .inr z1]).depth ≤ 5 := by simp [unkD, keyDat, PyData.depth, PyData.depthAll]
      have := hr.units
      show X.A.units + 1 + 1 + _ < cLine
      omega
  refine wpAny_bind (wpAny_holding (wpAny_call_entry slot_list_sort ⟨_, hoL, rfl⟩ entry_list_sort (PySem.W.list_sort_vals (s := { s with heap := g.push (seqObj "list" acc.toList.toArray 0), toks := tk }) hoL S small ⟨_, rfl, ?_⟩) (args_list_sort _)))
  obtain ⟨c, hat⟩ := sortedHeap_at (vs := acc.toList) (out := (PySem.W.sortVals (PySem.W.dataKind (PySem.W.sortingHeap (g.push (seqObj "list" acc.toList.toArray 0)) g.objs.size acc.toList) ((ks.map (·.1)).map unkD)) false acc.toList acc.toList).toArray) hoL
  have srt := PySem.W.sortVals_data (h' := PySem.W.sortingHeap (g.push (seqObj "list" acc.toList.toArray 0)) g.objs.size acc.toList) (R := fun v u => ∃ y, L2.RelV y v ∧ UnkAt H y u) (enc := unkD) false are rd hal
  obtain ⟨ys, rv, hy⟩ := each_back srt
  have ly : ys.length ≤ sizeLine := by
    rw [hy.length, (List.mergeSort_perm _ _).length_eq, List.length_map]
    exact sz1000 few
  refine wpAny_pure ⟨_, rfl, .ref g.objs.size, upd H g.objs.size (.lst ys), I1.laid (t' := tk) (fun b ob e => ?_) (Nat.le_refl _) ⟨ly, _, c, rv, hat⟩, rfl, q ys _ hy (I1.hok.fresh (Nat.le_refl _))⟩
  have lt : b < g.objs.size := Heap.lt_size e
  rw [sortedHeap_old (Nat.ne_of_lt lt) (by rw [size_push']; exact Nat.lt_succ_of_lt lt)]
  exact Heap.get?_push_of_some _ e
/-- y = {k: v for ..}, the keys tuples, y a local name -/
theorem ps_setDt {X : Cx} {i : Nat} {y : Str} {py : Pos} {ke ve tg src : Expr} {conds : List Expr} {sc : Scope} {own : List (Str × Nat)} {po spo : Pos} {wi : TI} {g : TG} {tt : TT} {tk tv : TE} (hu : X.A.units + 1 < cLine) (calm : X.calm = true) (nod : X.N.Nodup) (slot : X.N[i]? = some y) (isLoc : X.env.scope.names.lookup y = some .local)
    (sw : swapsWith (.DictComp ke ve [⟨tg, src, conds, 0⟩] sc po) (some (.Name y py)) spo.line X.env = pure true) (walks : PI X tg src wi) (blk : BlkOk X.N X.env.scope sc own)
    (rg : ∀ (s : Shared) (H : Hp) (C : Addr) (cl : List (Str × Addr)) (fp : List Addr), PG (X.blk s H sc (compEnvC sc cl C X.env) fp) tg g) (rt : ∀ (s : Shared) (H : Hp) (C : Addr) (cl : List (Str × Addr)) (fp : List Addr), PTs (X.blk s H sc (compEnvC sc cl C X.env) fp) conds tt)
    (rk : ∀ (s : Shared) (H : Hp) (C : Addr) (cl : List (Str × Addr)) (fp : List Addr), PE (X.blk s H sc (compEnvC sc cl C X.env) fp) ke tk) (rv : ∀ (s : Shared) (H : Hp) (C : Addr) (cl : List (Str × Addr)) (fp : List Addr), PE (X.blk s H sc (compEnvC sc cl C X.env) fp) ve tv)
    (fold : ∀ x, foldedSetIterable src X.env x = pure x := by intro _; rfl) : PS X (.Assign [.Name y py] (.DictComp ke ve [⟨tg, src, conds, 0⟩] sc po) spo) (tAsg (tDt wi g tt tk tv (own.map (·.2))) (gName i)) := by
  constructor
  intro pn s σ H D I want
  rw [exec_Assign_Name_used _ _ _ _ sw]
  refine wpAny_bind (wpAny_standAt (wpAny_bind ?_))
  show wpAny _ X.A (do let _ ← comprehension (.DictComp ke ve [⟨tg, src, conds, 0⟩] sc po) sc X.env (firstIterPos [⟨tg, src, conds, 0⟩] po) newDict false (eval src X.env) (some (assign (.Name y py) X.env))) _ _ s
  have want' : tDt wi g tt tk tv (own.map (·.2)) σ H (fun x H1 => gName i x σ H1 D.nx) := want
  refine wpAny_bind (thn (run_dt (Fi := fun _ s' => SP X pn D .next s') hu calm nod I walks blk rg rt rk rv fold want' fun L C s' m H' I' q hn ff => ?_) fun _ s' hq => wpAny_pure (wpAny_pure hq))
  show wpAny _ _ (assign (.Name y py) X.env (.ref L)) _ _ _
  refine wpAny_assign_Name (store_ok2 (v := V.ref L) I' nod slot (.inl isLoc) rfl (fun s2 I2 there => ?_) (.inr isLoc))
  obtain ⟨a, sb, ha⟩ := there
  have ⟨u0, u1, u2, u3, u4, u5⟩ := ff
  have apart : C ≠ a := by
    rcases ha with z | z
    · exact fun e => u1 (e.trans z)
    · exact fun e => u4 y a z e.symm
  exact ⟨m, hn.sameBut sb apart, fun h3 sb3 => ⟨_, H', I2.turned (t' := s2.toks) (fun b o hb e => (sb3.2 b hb).trans e) u0 u1 u3 u4 u5, q⟩⟩
theorem sw_dt {ke ve : Expr} {gs : List Comprehension} {sc : Scope} {po py : Pos} {y : Str} {l : Nat} {env : Env} (isF : env.scope.kind = .function) (isL : env.scope.names.lookup y = some .local) (line : (py.line == po.line) = true)
    (not : (sc.names.any fun (n, k) => n == y && (k == .local || k == .cell)) = false) : swapsWith (.DictComp ke ve gs sc po) (some (.Name y py)) l env = pure true := by
  have k1 : env.kindOf y = some .local := isL
  have k2 : env.blockKind = .function := by
    unfold Env.blockKind
    rw [isF]
    rfl
  unfold swapsWith
  simp only [k2, k1, not, Expr.pos, line]
  rfl

/-! ### sums of the program -/
abbrev pieceU (z : Str) : List Key := [.inr sPiece, .inr z]
abbrev nameU (z : Str) : List Key := [.inr sName, .inr z]
/-- a def that is called with its last arguments left out -/
structure HasD (P : Program) (w : World) (K : PySem.W.Frag) (mg : Str → Option Value) (base : Heap) (CX : CXT) (k : Nat) (x : Str) (ps : List Str) (dvs : List V) (sp : Sp) : Prop where
  ex : ∃ (f : Addr) (fd : FuncData) (ds : List Value), mg x = some (.ref f) ∧ PySem.W.keepIn K (.ref f) = true ∧ Vals dvs ds ∧ Binds K fd ps ds ∧ FnOk P w K mg base CX k f fd ps sp
theorem HasD.mono {P : Program} {w : World} {K : PySem.W.Frag} {mg : Str → Option Value} {base : Heap} {CX : CXT} {j k : Nat} {x : Str} {ps : List Str} {dvs : List V} {sp : Sp} (h : HasD P w K mg base CX j x ps dvs sp) (l : j ≤ k) : HasD P w K mg base CX k x ps dvs sp := by
  obtain ⟨f, fd, ds, a, b, c, d, e⟩ := h.ex
  exact ⟨f, fd, ds, a, b, c, d, e.mono l⟩
section
variable {X : Cx} {CX : CXT} {k : Nat} {ps : List Str} {dvs : List V} {sp : Sp} {E : XK} {x : Str} {p pos : Pos} {e : Expr} {es : List Expr} {t : TA}
theorem pe_callD (F : HasD X.prog X.w X.K X.mg X.base CX k x ps dvs sp) (hr : Room k X.A) (hg : Gl X x) (hx : Passes CX X E)
    (ha : PA X (e :: es) t) (hdb : (x == ("__debug__" : Str)) = false := by decide) (he : starEach (e :: es) X.env = (false, eval e X.env) :: starEach es X.env := by rfl) (hpl : (backTo pos (starEach es X.env)).any (·.1) = false := by rfl) :
    PE X (.Call (.Name x p) (e :: es) [] pos) (tCall sp dvs E t) := by
  obtain ⟨f, fd, ds, a, b, c, d, g⟩ := F.ex
  exact pe_call g hr hg a b d c hx ha hdb he hpl
end
def spSumAt (K : PySem.W.Frag) : Sp := fun vs H Q _ => ∃ (a : Addr) (z : Str) (o : Int), vs = [.ref a] ∧ SqT K H a [.str z, .int o] ∧ ∀ v H', Same H H' → SumT H' v o [(pieceU z, 1)] → Q v H'
abbrev sSumAt : Stmt := topS 24
theorem scSumAt : FnScope ["address"] ["address"] (defScope sSumAt) := ⟨rfl, rfl, rfl, by decide +kernel, rfl, by decide +kernel, by decide +kernel⟩
/-- coded of what is right -/
def spCoded0 : Sp := fun vs H Q _ => ∃ (c d : Int), vs = [.int c, .int 0, .int 0, .int d] ∧ 0 ≤ c ∧ c ≤ 31 ∧ Q (.int (c + 2048 * d)) H
def spSumOf0 (K : PySem.W.Frag) : Sp := fun vs H Q _ => ∃ v d n ps, vs = [v] ∧ Th K H v d ∧ okSum d ∧ readSum d = some (n, ps) ∧ ∀ v' H', Same H H' → SumT H' v' n ps → Q v' H'
theorem scCoded0 : FnScope ["code", "x", "y", "d"] ["code", "x", "y", "d"] (defScope sCoded) := scCoded
/-- the multiples of a sum are small -/
def SmM (ps : Mul) : Prop := ∀ q ∈ ps, -(2 ^ 63) ≤ q.2 ∧ q.2 ≤ 2 ^ 63
def plusA (l m : Mul) : Mul := m.foldl (fun a q => addP a q.1 q.2) l
def spTimes1 (K : PySem.W.Frag) : Sp := fun vs H Q _ => ∃ (v u : V) (n m : Int) (ps qs : Mul), vs = [v, u, .int 1] ∧ SumT H v n ps ∧ SumT H u m qs ∧ NodK ps ∧ (∀ q ∈ ps.map (·.1), NmU q) ∧ (∀ q ∈ qs.map (·.1), NmU q) ∧ ps.length ≤ 400 ∧ qs.length ≤ 400 ∧
  ∀ v' H', Same H H' → SumT H' v' (n + m) (form (plusA ps qs)) → Q v' H'
def spPlus (K : PySem.W.Frag) : Sp := fun vs H Q _ => ∃ (v u : V) (d e : PyData) (n m : Int) (ps qs : Mul), vs = [v, u] ∧ Th K H v d ∧ Th K H u e ∧ okSum d ∧ okSum e ∧ readSum d = some (n, ps) ∧ readSum e = some (m, qs) ∧ NodK ps ∧ (∀ q ∈ ps.map (·.1), NmU q) ∧ (∀ q ∈ qs.map (·.1), NmU q) ∧ ps.length ≤ 400 ∧ qs.length ≤ 400 ∧
  ∀ v' H', Same H H' → SumT H' v' (n + m) (form (plusA ps qs)) → Q v' H'
/-- what a dict of worths holds: the labels' addresses in a piece -/
def WorthsV (H : Hp) (kvs : List (List Key × V)) (g : Str → Option Int) (p : Str) : Prop := ∀ u, match valV kvs u with
  | some y => ∃ z o, u = nameU z ∧ g z = some o ∧ SumT H y o [(pieceU p, 1)]
  | none => ∀ z, u = nameU z → g z = none
theorem worthsV_s {H H' : Hp} (e : TupS H H') {kvs : List (List Key × V)} {g : Str → Option Int} {p : Str} (h : WorthsV H kvs g p) : WorthsV H' kvs g p := fun u => by
  have := h u
  revert this
  cases valV kvs u with
  | none => exact id
  | some y => exact fun ⟨z, o, a, b, c⟩ => ⟨z, o, a, b, sumT_s e c⟩
def spWith (K : PySem.W.Frag) : Sp := fun vs H Q _ => ∃ (v : V) (n : Int) (ps : Mul) (d : Addr) (kvs : List (List Key × V)) (g : Str → Option Int) (p : Str), vs = [v, .ref d] ∧ SumT H v n ps ∧ H d = some (.dT kvs) ∧ WorthsV H kvs g p ∧ SmM ps ∧ (∀ q ∈ ps.map (·.1), NmU q) ∧ ps.length ≤ 400 ∧
  ∀ v' H', Same H H' → SumT H' v' (putAll g p n ps).1 (form (putAll g p n ps).2) → Q v' H'
abbrev sTimes : Stmt := topS 25
abbrev sPlus : Stmt := topS 26
abbrev sWith : Stmt := topS 27
theorem scTimes : FnScope ["one", "other", "many", "unknown", "multiple", "multiples"] ["one", "other", "many"] (defScope sTimes) := ⟨rfl, rfl, rfl, by decide +kernel, rfl, by decide +kernel, by decide +kernel⟩
theorem scPlus : FnScope ["one", "other", "first"] ["one", "other"] (defScope sPlus) := ⟨rfl, rfl, rfl, by decide +kernel, rfl, by decide +kernel, by decide +kernel⟩
theorem scWith : FnScope ["one", "worths", "number", "multiples", "unknown", "multiple", "worth", "inner", "many"] ["one", "worths"] (defScope sWith) := ⟨rfl, rfl, rfl, by decide +kernel, rfl, by decide +kernel, by decide +kernel⟩
theorem nm_piece (z : Str) : NmU (pieceU z) := ⟨_, z, rfl, by decide +kernel⟩
theorem nm_name (z : Str) : NmU (nameU z) := ⟨_, z, rfl, by decide +kernel⟩
theorem vKv_len (l : Mul) : (vKv l).length = l.length := List.length_map ..
theorem subU_nm {g : Str → Option Int} {p : Str} {u : List Key} (h : NmU u) : NmU (subU g p u) := by
  obtain ⟨k, z, rfl, hk⟩ := h
  unfold subU
  dsimp only
  split
  · exact nm_piece p
  · exact ⟨k, z, rfl, hk⟩
theorem putAll_nm {g : Str → Option Int} {p : Str} : ∀ {l : Mul} {s : Int × Mul}, (∀ u ∈ l.map (·.1), NmU u) → (∀ u ∈ s.2.map (·.1), NmU u) → ∀ u ∈ (l.foldl (putIn g p) s).2.map (·.1), NmU u
  | [], s, _, h => h
  | q :: l, s, hl, h => by
    rw [List.foldl_cons]
    refine putAll_nm (fun u hu => hl u (List.mem_cons_of_mem _ hu)) ?_
    rw [putIn_eq]
    exact addP_keys h (subU_nm (hl q.1 (List.mem_cons_self ..)))
theorem plusA_len : ∀ (m l : Mul), (plusA l m).length ≤ l.length + m.length
  | [], l => Nat.le_refl _
  | q :: m, l => by
    show (plusA (addP l q.1 q.2) m).length ≤ _
    refine Nat.le_trans (plusA_len m _) ?_
    have := addP_len l q.1 q.2
    rw [List.length_cons]
    omega
theorem plusA_nm : ∀ {m l : Mul}, (∀ u ∈ m.map (·.1), NmU u) → (∀ u ∈ l.map (·.1), NmU u) → ∀ u ∈ (plusA l m).map (·.1), NmU u
  | [], l, _, h => h
  | q :: m, l, hm, h => by
    show ∀ u ∈ (plusA (addP l q.1 q.2) m).map (·.1), NmU u
    exact plusA_nm (fun u hu => hm u (List.mem_cons_of_mem _ hu)) (addP_keys h (hm q.1 (List.mem_cons_self ..)))
theorem take_not {α : Type} {l : List α} {i : Nat} {a : α} (nd : l.Nodup) (h : l[i]? = some a) : a ∉ l.take i := by
  intro hm
  obtain ⟨j, hj, ej⟩ := List.mem_iff_getElem.mp hm
  have hj2 : j < i := by
    rw [List.length_take] at hj
    omega
  have hi : i < l.length := (List.getElem?_eq_some_iff.mp h).1
  have e1 : l[i] = a := (List.getElem?_eq_some_iff.mp h).2
  have e2 : l[j] = a := by rw [← ej, List.getElem_take]
  exact List.pairwise_iff_getElem.mp nd j i (by omega) hi hj2 (e2.trans e1.symm)
theorem part_get {H : Hp} {xs : List V} {ps : Mul} (h : PySem.W.EachIs (PartT H) xs ps) {i : Nat} {x : V} (hx : xs[i]? = some x) : ∃ u m c e, ps[i]? = some (u, m) ∧ x = .ref c ∧ H c = some (.tup [.ref e, .int m]) ∧ H e = some (.tup (u.map kV)) := by
  obtain ⟨⟨u, m⟩, h1, c, e, h2, h3, h4⟩ := eachs_get h hx
  exact ⟨u, m, c, e, h1, h2, h3, h4⟩
section
variable {P : Program} {w : World} {K : PySem.W.Frag} {mg : Str → Option Value} {base : Heap}
theorem ok_sumAt {f : Addr} {fd : FuncData} (F : Fun K "sum_at" "sum_at" sSumAt f fd) : FnOk P w K mg base CX0 1 f fd ["address"] (spSumAt K) := by
  refine F.ok scSumAt (fun vs H Q E h => ?_) (fun cdv A outer s H vs Q E hr h => ?_)
  · obtain ⟨a, z, o, rfl, _⟩ := h
    rfl
  · obtain ⟨a, z, o, rfl, ha, q⟩ := h
    refine ⟨_, (pss_one (ps_ret (pe_tup (pa_cons (pe_ix ix_tup (pv 0) pe_int (fun _ _ => rfl)) (pa_cons (pe_tup (pa_cons (pe_tup (pa_cons (pe_tup (pa_cons pe_str (pa_cons (pe_ix ix_tup (pv 0) pe_int (fun _ _ => rfl)) pa_nil))) (pa_cons pe_int pa_nil))) pa_nil)) pa_nil))))), ?_⟩
    refine ⟨_, rfl, a, _, _, _, rfl, rfl, ha, at_of (i := 1) rfl, _, rfl, a, _, _, _, rfl, rfl, ha, at_of (i := 0) rfl, (by show 2 ≤ sizeLine; decide), fun p1 h1 => ⟨(by show 2 ≤ sizeLine; decide), fun p2 h2 => ⟨(by show 1 ≤ sizeLine; decide), fun p3 h3 => ⟨(by show 2 ≤ sizeLine; decide), fun p4 h4 => ?_⟩⟩⟩⟩
    have s1 := same_new (o := .tup [V.str sPiece, V.str z]) h1
    have s2 := same_new (o := .tup [V.ref p1, V.int 1]) h2
    have s3 := same_new (o := .tup [V.ref p2]) h3
    have s4 := same_new (o := .tup [V.int o, V.ref p3]) h4
    refine q _ _ (((s1.trans s2).trans s3).trans s4) ⟨p4, p3, [.ref p2], rfl, upd_same, s4 _ _ upd_same, .cons ⟨p2, p1, rfl, s4 _ _ (s3 _ _ upd_same), s4 _ _ (s3 _ _ (s2 _ _ upd_same))⟩ .nil⟩
theorem ok_coded0 {f : Addr} {fd : FuncData} {dvs : List V} (F : FunD K "coded" "coded" (defArgs sCoded) (defBody sCoded) (defScope sCoded) dvs [] f fd) (G1 : Has P w K mg base CX0 2 "is_up_to" ["thing", "most"] (spUpTo K))
    (G2 : Has P w K mg base CX0 2 "is_integer" ["thing"] (spIsInt K)) : FnOk P w K mg base CX0 3 f fd ["code", "x", "y", "d"] spCoded0 := by
  refine F.ok scCoded (fun vs H Q E h => ?_) (fun cdv A outer s H vs Q E hr h => ?_)
  · obtain ⟨c, d, rfl, _⟩ := h
    rfl
  · obtain ⟨c, d, rfl, c0, c1, q⟩ := h
    refine ⟨_, (pss_cons (ps_if (pt_not (pt_val (pe_callH G1 hr (by rfl) pass0 (pa_cons (pv 0) (pa_cons pe_int pa_nil))))) (pss_one ps_never) pss_nil)
      (pss_cons (ps_if (pt_not (pt_val (pe_callH G1 hr (by rfl) pass0 (pa_cons (pv 1) (pa_cons pe_int pa_nil))))) (pss_one ps_never) pss_nil)
      (pss_cons (ps_if (pt_not (pt_val (pe_callH G1 hr (by rfl) pass0 (pa_cons (pv 2) (pa_cons pe_int pa_nil))))) (pss_one ps_never) pss_nil)
      (pss_cons (ps_if (pt_not (pt_val (pe_callH G2 hr (by rfl) pass0 (pa_cons (pv 3) pa_nil)))) (pss_one ps_never) pss_nil)
      (pss_one (ps_ret (pe_op op_add (pe_op op_add (pe_op op_add (pv 0) (pe_op op_mul pe_int (pv 1))) (pe_op op_mul pe_int (pv 2))) (pe_op op_mul pe_int (pv 3))))))))), ?_⟩
    have e1 : upTo (.int c) 31 = true := by simp [upTo, c0, c1]
    refine ⟨_, rfl, _, .int c, _, rfl, .dat (.int c), _, rfl, ?_⟩
    rw [e1]
    refine iteF ⟨_, rfl, _, .int 0, _, rfl, .dat (.int 0), _, rfl, iteF ⟨_, rfl, _, .int 0, _, rfl, .dat (.int 0), _, rfl, iteF ⟨_, rfl, _, .int d, rfl, .dat (.int d), _, rfl, iteF ?_⟩⟩⟩
    refine ⟨_, rfl, _, rfl, _, _, rfl, rfl, .inl ⟨by decide, by decide⟩, _, _, rfl, rfl, _, rfl, _, _, rfl, rfl, .inl ⟨by decide, by decide⟩, _, _, rfl, rfl, _, rfl, _, _, rfl, rfl, .inl ⟨by decide, by decide⟩, _, _, rfl, rfl, ?_⟩
    have e : c + 32 * 0 + 256 * 0 + 2048 * d = c + 2048 * d := by omega
    have q2 : Q (.int (c + 32 * 0 + 256 * 0 + 2048 * d)) H := by
      rw [e]
      exact q
    exact q2
theorem ok_sumOf0 {f : Addr} {fd : FuncData} (F : Fun K "sum_of" "sum_of" sSumOf f fd) (G : Has P w K mg base CX0 4 "read_sum" ["thing"] (spReadSum K)) : FnOk P w K mg base CX0 5 f fd ["thing"] (spSumOf0 K) := by
  refine F.ok scSumOf (fun vs H Q E h => ?_) (fun cdv A outer s H vs Q E hr h => ?_)
  · obtain ⟨v, d, n, ps, rfl, _⟩ := h
    rfl
  · obtain ⟨v, d, n, ps, rfl, th, ok, e, q⟩ := h
    refine ⟨_, (pss_cons (ps_set (i := 1) scSumOf.nd rfl (.inl rfl) (pe_callH G hr (by rfl) pass0 (pa_cons (pv 0) pa_nil)))
      (pss_cons (ps_if (pt_cmpR op_isN (pv 1) pe_non (nomark _)) (pss_one ps_never) pss_nil)
      (pss_one (ps_ret (pv 1))))), ?_⟩
    refine ⟨_, rfl, v, d, rfl, th, ok, fun v' H1 s1 hv => ⟨_, rfl, rfl, _, rfl, ?_⟩⟩
    rw [e] at hv
    rw [sumT_not_non hv]
    exact iteF ⟨_, rfl, q v' H1 s1 hv⟩
theorem ok_with {f : Addr} {fd : FuncData} (F : Fun K "with_worths" "with_worths" sWith f fd) (G : Has P w K mg base CX0 3 "one_form" ["number", "multiples"] (spOneForm K)) : FnOk P w K mg base CX0 4 f fd ["one", "worths"] (spWith K) := by
  refine F.ok scWith (fun vs H Q E h => ?_) (fun cdv A outer s H vs Q E hr h => ?_)
  · obtain ⟨v, n, ps, d, kvs, g, p, rfl, _⟩ := h
    rfl
  · obtain ⟨v, n, ps, d, kvs, g, p, rfl, ⟨a, b, xs, rfl, ha, hb, hxs⟩, hd, hw, sm, nm, few, q⟩ := h
    have hu := hu_of hr
    refine ⟨_, (pss_cons (ps_set (i := 2) scWith.nd rfl (.inl rfl) (pe_ix ix_tup (pv 0) pe_int (fun _ _ => rfl)))
      (pss_cons (ps_set (i := 3) scWith.nd rfl (.inl rfl) pe_dnewT)
      (pss_cons (ps_for PassesOwn.never rfl (pi_tup (pe_ix ix_tup (pv 0) pe_int (fun _ _ => rfl))) (pg_tup rfl (pgs_cons (pg_name (i := 4) scWith.nd rfl (.inl rfl)) (pgs_cons (pg_name (i := 5) scWith.nd rfl (.inl rfl)) pgs_nil)))
        (pss_cons (ps_set (i := 6) scWith.nd rfl (.inl rfl) (pe_dget2 hu (pv 1) (pv 4) (pe_tup (pa_cons pe_int (pa_cons (pe_tup (pa_cons (pe_tup (pa_cons (pv 4) (pa_cons pe_int pa_nil))) pa_nil)) pa_nil))) ⟨rfl, rfl, rfl, rfl⟩))
        (pss_cons (ps_aug (i := 2) scWith.nd rfl (.inl rfl) (pe_op op_mul (pv 5) (pe_ix ix_tup (pv 6) pe_int (fun _ _ => rfl))) ip_add)
        (pss_one (ps_for PassesOwn.never rfl (pi_tup (pe_ix ix_tup (pv 6) pe_int (fun _ _ => rfl))) (pg_tup rfl (pgs_cons (pg_name (i := 7) scWith.nd rfl (.inl rfl)) (pgs_cons (pg_name (i := 8) scWith.nd rfl (.inl rfl)) pgs_nil)))
          (pss_one (ps_dput hu (pv 3) (pv 7) (pe_op op_add (pe_dget2 hu (pv 3) (pv 7) pe_int ⟨rfl, rfl, rfl, rfl⟩) (pe_op op_mul (pv 5) (pv 8))) rfl)))))))
      (pss_one (ps_ret (pe_callH G hr (by rfl) pass0 (pa_cons (pv 2) (pa_cons (pv 3) pa_nil)))))))), ?_⟩
    refine ⟨_, rfl, a, _, _, _, rfl, rfl, SqT.of ha, at_of (i := 0) rfl, fun D hD => ?_⟩
    have s1 : Same H (upd H D (.dT [])) := same_new hD
    have lx : xs.length = ps.length := hxs.length
    refine ⟨_, rfl, a, _, _, _, rfl, rfl, SqT.of (s1 _ _ ha), at_of (i := 1) rfl, b, rfl, ⟨_, SqT.of (s1 _ _ hb)⟩, ?_⟩
    refine for_it walk_tup (fun i σ H4 => ∃ (w1 w2 w3 w4 w5 : Option V), σ = [some (.ref a), some (.ref d), some (.int ((ps.take i).foldl (putIn g p) (n, [])).1), some (.ref D), w1, w2, w3, w4, w5] ∧ Same H H4 ∧ H4 D = some (.dT (vKv ((ps.take i).foldl (putIn g p) (n, [])).2)))
      ⟨none, none, none, none, none, rfl, s1, upd_same⟩ (fun i σ H4 _ ⟨_, _, _, _, _, _, s4, _⟩ => SqT.of (s4 _ _ hb)) ?_ ?_
    · rintro i x σ H4 H4' hi ⟨w1, w2, w3, w4, w5, rfl, s4, hD4⟩ ⟨rfl, hx⟩
      obtain ⟨u, m, c, e, hum, rfl, hc, he⟩ := part_get hxs hx
      have hc4 := s4 _ _ hc
      have he4 := s4 _ _ he
      have hmem := List.mem_of_getElem? hum
      have hi2 : i < ps.length := (List.getElem?_eq_some_iff.mp hum).1
      have bm := sm _ hmem
      generalize hacc : (ps.take i).foldl (putIn g p) (n, []) = acc at *
      have step : (ps.take (i + 1)).foldl (putIn g p) (n, []) = putIn g p acc (u, m) := by
        rw [List.take_add_one, hum, List.foldl_append, hacc]
        rfl
      have al : acc.2.length ≤ i := by
        rw [← hacc]
        refine Nat.le_trans (putAll_len _ _) ?_
        rw [List.length_take]
        show 0 + _ ≤ _
        omega
      refine ⟨c, _, rfl, SqT.of hc4, rfl, _, _, rfl, _, _, rfl, rfl, ?_⟩
      refine ⟨_, rfl, d, rfl, .inr ⟨_, .inl (s4 _ _ hd)⟩, _, rfl, _, rfl, (by show 2 ≤ sizeLine; decide), fun p1 h1 => ⟨(by show 1 ≤ sizeLine; decide), fun p2 h2 => ⟨(by show 2 ≤ sizeLine; decide), fun p3 h3 => ?_⟩⟩⟩
      have t1 := same_new (o := .tup [V.ref e, V.int 1]) h1
      have t2 := same_new (o := .tup [V.ref p1]) h2
      have t3 := same_new (o := .tup [V.int 0, V.ref p2]) h3
      have t := (t1.trans t2).trans t3
      have def1 : SumT (upd (upd (upd H4' p1 (.tup [V.ref e, V.int 1])) p2 (.tup [V.ref p1])) p3 (.tup [V.int 0, V.ref p2])) (.ref p3) 0 [(u, 1)] := ⟨p3, p2, [.ref p1], rfl, upd_same, t3 _ _ upd_same, .cons ⟨p1, e, rfl, t3 _ _ (t2 _ _ upd_same), t _ _ he4⟩ .nil⟩
      generalize upd (upd (upd H4' p1 (.tup [V.ref e, V.int 1])) p2 (.tup [V.ref p1])) p3 (.tup [V.int 0, V.ref p2]) = H5 at t def1 ⊢
      have worth : SumT H5 ((valV kvs u).getD (.ref p3)) (subN g u) [(subU g p u, 1)] := by
        have hw5 := worthsV_s (TupS.of (s4.trans t)) hw u
        revert hw5
        cases valV kvs u with
        | some y =>
          rintro ⟨z, o, rfl, hg, h⟩
          have e1 : subN g (nameU z) = o := by
            show (if sName = sName then (g z).getD 0 else 0) = o
            rw [if_pos rfl, hg]
            rfl
          have e2 : subU g p (nameU z) = pieceU p := by
            show (if sName = sName ∧ (g z).isSome = true then _ else _) = _
            rw [if_pos ⟨rfl, by rw [hg]; rfl⟩]
          rw [e1, e2]
          exact h
        | none =>
          intro h
          obtain ⟨k, z, rfl, _⟩ := nm u (List.mem_map.mpr ⟨_, hmem, rfl⟩)
          have e1 : subN g [.inr k, .inr z] = 0 := by
            show (if k = sName then (g z).getD 0 else 0) = 0
            split
            · rename_i ck
              subst ck
              rw [h z rfl]
              rfl
            · rfl
          have e2 : subU g p [.inr k, .inr z] = [.inr k, .inr z] := by
            show (if k = sName ∧ (g z).isSome = true then _ else _) = _
            rw [if_neg]
            rintro ⟨ck, hs⟩
            subst ck
            rw [h z rfl] at hs
            cases hs
          rw [e1, e2]
          exact def1
      refine ⟨_, DGet.t (t _ _ (s4 _ _ hd)) (t _ _ he4), ?_⟩
      obtain ⟨wa, wb, wx, ewa, hwa, hwb, hwx⟩ := worth
      rw [ewa]
      refine ⟨_, rfl, _, rfl, _, rfl, wa, _, _, _, rfl, rfl, SqT.of hwa, at_of (i := 0) rfl, m, subN g u, rfl, rfl, .inl ⟨by omega, by omega⟩, _, _, rfl, rfl, ?_⟩
      refine ⟨_, rfl, wa, _, _, _, rfl, rfl, SqT.of hwa, at_of (i := 1) rfl, wb, rfl, ⟨_, SqT.of hwb⟩, ?_⟩
      have hD5 := t _ _ hD4
      have lw : wx.length = 1 := hwx.length
      refine for_it walk_tup (fun j σ H6 => ∃ (w4 w5 : Option V), σ = [some (.ref a), some (.ref d), some (.int (acc.1 + m * subN g u)), some (.ref D), some (.ref e), some (.int m), some (.ref wa), w4, w5] ∧ Same H H6 ∧ TupS H5 H6 ∧ H6 D = some (.dT (vKv (if j = 0 then acc.2 else addP acc.2 (subU g p u) m))))
        ⟨w4, w5, rfl, s4.trans t, TupS.refl _, hD5⟩ (fun j σ H6 _ ⟨_, _, _, _, ts, _⟩ => SqT.of (ts _ _ hwb)) ?_ ?_
      · rintro j y σ H6 H6' hj ⟨w4', w5', rfl, s6, ts6, hD6⟩ ⟨rfl, hy⟩
        obtain rfl : j = 0 := by omega
        obtain ⟨u', m', c', e', hum', rfl, hc', he'⟩ := part_get hwx hy
        obtain ⟨rfl, rfl⟩ : u' = subU g p u ∧ m' = 1 := by
          have := Option.some.inj hum'
          cases this
          exact ⟨rfl, rfl⟩
        have hD6 : H6' D = some (.dT (vKv acc.2)) := hD6
        refine ⟨c', _, rfl, SqT.of (ts6 _ _ hc'), rfl, _, _, rfl, _, _, rfl, rfl, ?_⟩
        refine ⟨_, rfl, D, rfl, .inr ⟨_, .inl hD6⟩, _, rfl, _, DGet.t hD6 (ts6 _ _ he'), _, rfl, _, rfl, m, 1, rfl, rfl, .inl ⟨by omega, by omega⟩, getI acc.2 (subU g p u), m * 1, getD_val acc.2 (subU g p u), rfl, ?_⟩
        refine ⟨_, rfl, _, rfl, D, _, rfl, DPut.t hD6 (ts6 _ _ he') (by
          rw [vKv_len]
          exact small1000 (by omega)), ?_⟩
        rw [put_vKv]
        refine ⟨_, _, rfl, fun b' o' eb => ?_, ts6.trans (TupS.put hD6 (by intro xs z; cases z)), ?_⟩
        · rw [upd_ne (ne_of_none eb hD)]
          exact s6 _ _ eb
        · rw [upd_same, if_neg (by omega)]
          unfold addP
          rw [Int.mul_one]
      · rintro σ H6 ⟨w4', w5', rfl, s6, ts6, hD6⟩
        rw [lw, if_neg (by omega)] at hD6
        exact ⟨some (.ref e), some (.int m), some (.ref wa), w4', w5', by rw [step, putIn_eq], s6, by
          rw [step, putIn_eq]
          exact hD6⟩
    · rintro σ H4 ⟨w1, w2, w3, w4, w5, rfl, s4, hD4⟩
      rw [lx, List.take_length] at hD4
      rw [lx, List.take_length]
      have al : (ps.foldl (putIn g p) (n, [])).2.length ≤ ps.length := by
        refine Nat.le_trans (putAll_len _ _) ?_
        show 0 + _ ≤ _
        omega
      refine ⟨_, rfl, _, rfl, _, D, _, rfl, hD4, ?_, by omega, fun v' H5 s5 hv => q v' H5 (s4.trans s5) hv⟩
      exact putAll_nm nm (fun u hu => by simp at hu)
/-- the parts of a sum, one by one, as a dict -/
theorem put_new {l : Mul} {u : List Key} (m : Int) (h : u ∉ l.map (·.1)) : putI l u m = l ++ [(u, m)] := putI_out m h
theorem ok_times {f : Addr} {fd : FuncData} (F : Fun K "with_times" "with_times" sTimes f fd) (G : Has P w K mg base CX0 3 "one_form" ["number", "multiples"] (spOneForm K)) : FnOk P w K mg base CX0 4 f fd ["one", "other", "many"] (spTimes1 K) := by
  refine F.ok scTimes (fun vs H Q E h => ?_) (fun cdv A outer s H vs Q E hr h => ?_)
  · obtain ⟨v, u, n, m, ps, qs, rfl, _⟩ := h
    rfl
  · obtain ⟨v, u, n, m, ps, qs, rfl, ⟨a, b, xs, rfl, ha, hb, hxs⟩, ⟨a2, b2, ys, rfl, ha2, hb2, hys⟩, nd, nm1, nm2, f1, f2, q⟩ := h
    have hu := hu_of hr
    refine ⟨_, (pss_cons (ps_setDt (i := 5) (own := [("unknown", 3), ("multiple", 4)]) (g := gTup K 2 (gCons (gName 3) (gCons (gName 4) gNil))) (tt := tYes) (tk := tVar 3) (tv := tVar 4) hu rfl scTimes.nd rfl rfl (sw_dt rfl rfl rfl (by decide +kernel)) (pi_tup (pe_ix ix_tup (pv 0) pe_int (fun _ _ => rfl))) (blkOk_by (N := ["one", "other", "many", "unknown", "multiple", "multiples"]) (sc := defScope sTimes) (by decide +kernel))
        (fun _ _ _ _ _ => (pg_tup rfl (pgs_cons (pg_name (i := 3) scTimes.nd rfl (.inl rfl) (.inr rfl)) (pgs_cons (pg_name (i := 4) scTimes.nd rfl (.inl rfl) (.inr rfl)) pgs_nil)))) (fun _ _ _ _ _ => pts_nil) (fun _ _ _ _ _ => pv 3) (fun _ _ _ _ _ => pv 4))
      (pss_cons (ps_for PassesOwn.never rfl (pi_tup (pe_ix ix_tup (pv 1) pe_int (fun _ _ => rfl))) (pg_tup rfl (pgs_cons (pg_name (i := 3) scTimes.nd rfl (.inl rfl)) (pgs_cons (pg_name (i := 4) scTimes.nd rfl (.inl rfl)) pgs_nil)))
        (pss_one (ps_dput hu (pv 5) (pv 3) (pe_op op_add (pe_dget2 hu (pv 5) (pv 3) pe_int ⟨rfl, rfl, rfl, rfl⟩) (pe_op op_mul (pv 2) (pv 4))) rfl)))
      (pss_one (ps_ret (pe_callH G hr (by rfl) pass0 (pa_cons (pe_op op_add (pe_ix ix_tup (pv 0) pe_int (fun _ _ => rfl)) (pe_op op_mul (pv 2) (pe_ix ix_tup (pv 1) pe_int (fun _ _ => rfl)))) (pa_cons (pv 5) pa_nil))))))), ?_⟩
    have lx : xs.length = ps.length := hxs.length
    have ly : ys.length = qs.length := hys.length
    refine ⟨_, rfl, a, _, _, _, rfl, rfl, SqT.of ha, at_of (i := 1) rfl, b, rfl, ⟨_, SqT.of hb⟩, fun D hD => ?_⟩
    refine dt_it walk_tup (fun i H4 => (∀ c o, c ≠ D → H c = some o → H4 c = some o) ∧ H4 D = some (.dT (vKv (ps.take i)))) ⟨fun c o hc e => by rw [upd_ne hc]; exact e, upd_same⟩ (fun i H4 _ ⟨kp, _⟩ => SqT.of (kp _ _ (ne_of_none hb hD) hb)) ?_ ?_
    · rintro i x H4 H4' hi ⟨kp, hD4⟩ ⟨rfl, hx⟩
      obtain ⟨u, mm, c, e, hum, rfl, hc, he⟩ := part_get hxs hx
      have hi2 : i < ps.length := (List.getElem?_eq_some_iff.mp hum).1
      have he4 := kp _ _ (ne_of_none he hD) he
      refine ⟨c, _, rfl, SqT.of (kp _ _ (ne_of_none hc hD) hc), rfl, _, _, rfl, _, _, rfl, rfl, rfl, yes_go (iteT ?_)⟩
      refine ⟨_, rfl, _, rfl, _, ⟨_, u, e, hD4, rfl, he4, ?_, rfl⟩, fun c' o hc' ec => ?_, ?_⟩
      · rw [vKv_len, List.length_take]
        exact small1000 (by omega)
      · rw [upd_ne hc']
        exact kp c' o hc' ec
      · rw [upd_same, put_vKv, List.take_add_one, hum, put_new]
        · rfl
        · have nd2 : (ps.map (·.1)).Nodup := nd
          have hn := take_not nd2 (i := i) (a := u) (by rw [List.getElem?_map, hum]; rfl)
          rw [← List.map_take] at hn
          exact hn
    · rintro H4 ⟨kp, hD4⟩
      rw [lx, List.take_length] at hD4
      have s4 : Same H H4 := fun c o e => kp c o (ne_of_none e hD) e
      refine ⟨_, rfl, a2, _, _, _, rfl, rfl, SqT.of (s4 _ _ ha2), at_of (i := 1) rfl, b2, rfl, ⟨_, SqT.of (s4 _ _ hb2)⟩, ?_⟩
      refine for_it walk_tup (fun i σ H5 => ∃ (w1 w2 : Option V), σ = [some (.ref a), some (.ref a2), some (.int 1), w1, w2, some (.ref D)] ∧ Same H H5 ∧ H5 D = some (.dT (vKv (plusA ps (qs.take i)))))
        ⟨none, none, rfl, s4, hD4⟩ (fun i σ H5 _ ⟨_, _, _, s5, _⟩ => SqT.of (s5 _ _ hb2)) ?_ ?_
      · rintro i x σ H5 H5' hi ⟨w1, w2, rfl, s5, hD5⟩ ⟨rfl, hx⟩
        obtain ⟨u, mm, c, e, hum, rfl, hc, he⟩ := part_get hys hx
        have hi2 : i < qs.length := (List.getElem?_eq_some_iff.mp hum).1
        refine ⟨c, _, rfl, SqT.of (s5 _ _ hc), rfl, _, _, rfl, _, _, rfl, rfl, ?_⟩
        refine ⟨_, rfl, D, rfl, .inr ⟨_, .inl hD5⟩, _, rfl, _, DGet.t hD5 (s5 _ _ he), _, rfl, _, rfl, 1, mm, rfl, rfl, .inl ⟨by decide, by decide⟩, getI (plusA ps (qs.take i)) u, 1 * mm, getD_val _ u, rfl, ?_⟩
        have al := plusA_len (qs.take i) ps
        rw [List.length_take] at al
        refine ⟨_, rfl, _, rfl, D, _, rfl, DPut.t hD5 (s5 _ _ he) (by
          rw [vKv_len]
          exact small1000 (by omega)), ?_⟩
        rw [put_vKv]
        refine ⟨_, _, rfl, fun b' o' eb => ?_, ?_⟩
        · rw [upd_ne (ne_of_none eb hD)]
          exact s5 _ _ eb
        · rw [upd_same, List.take_add_one, hum]
          unfold plusA
          rw [List.foldl_append, Int.one_mul]
          rfl
      · rintro σ H5 ⟨w1, w2, rfl, s5, hD5⟩
        rw [ly, List.take_length] at hD5
        have al := plusA_len qs ps
        refine ⟨_, rfl, a, _, _, _, rfl, rfl, SqT.of (s5 _ _ ha), at_of (i := 0) rfl, _, rfl, _, rfl, a2, _, _, _, rfl, rfl, SqT.of (s5 _ _ ha2), at_of (i := 0) rfl, 1, m, rfl, rfl, .inl ⟨by decide, by decide⟩, n, 1 * m, rfl, rfl, _, rfl, n + 1 * m, D, _, rfl, hD5, plusA_nm nm2 nm1, by omega, fun v' H6 s6 hv => q v' H6 (s5.trans s6) ?_⟩
        rw [Int.one_mul] at hv
        exact hv
theorem ok_plus {f : Addr} {fd : FuncData} (F : Fun K "plus" "plus" sPlus f fd) (G1 : Has P w K mg base CX0 6 "sum_of" ["thing"] (spSumOf0 K)) (G2 : Has P w K mg base CX0 6 "with_times" ["one", "other", "many"] (spTimes1 K)) : FnOk P w K mg base CX0 7 f fd ["one", "other"] (spPlus K) := by
  refine F.ok scPlus (fun vs H Q E h => ?_) (fun cdv A outer s H vs Q E hr h => ?_)
  · obtain ⟨v, u, d, e, n, m, ps, qs, rfl, _⟩ := h
    rfl
  · obtain ⟨v, u, d, e, n, m, ps, qs, rfl, hv, hu, o1, o2, e1, e2, nd, nm1, nm2, f1, f2, q⟩ := h
    refine ⟨_, (pss_cons (ps_set (i := 2) scPlus.nd rfl (.inl rfl) (pe_callH G1 hr (by rfl) pass0 (pa_cons (pv 0) pa_nil)))
      (pss_one (ps_ret (pe_callH G2 hr (by rfl) pass0 (pa_cons (pv 2) (pa_cons (pe_callH G1 hr (by rfl) pass0 (pa_cons (pv 1) pa_nil)) (pa_cons pe_int pa_nil))))))), ?_⟩
    refine ⟨_, rfl, v, d, n, ps, rfl, hv, o1, e1, fun v1 H1 s1 h1 => ⟨_, rfl, _, rfl, u, e, m, qs, rfl, th_same s1 hu, o2, e2, fun v2 H2 s2 h2 => ?_⟩⟩
    exact ⟨v1, v2, n, m, ps, qs, rfl, sumT_s (TupS.of s2) h1, h2, nd, nm1, nm2, f1, f2, fun v' H3 s3 h3 => q v' H3 ((s1.trans s2).trans s3) h3⟩
end

/-! ### words of drafts -/
theorem dps_ints {K : PySem.W.Frag} {H : Hp} : ∀ ks : List Int, DpAll K H (ks.map V.int) (ks.map PyData.int)
  | [] => .nil
  | k :: ks => .cons (.int k) (dps_ints ks)
theorem del_same_of {H H' : Hp} {D : Addr} (e : Same H H') : Same (del H D) (del H' D) := fun b o hb => by
  by_cases h : b = D
  · rw [h, del_same] at hb; cases hb
  · rw [del_ne h] at hb ⊢
    exact e _ _ hb
theorem del_sub {H : Hp} {D : Addr} : Same (del H D) H := fun b o hb => by
  by_cases h : b = D
  · rw [h, del_same] at hb; cases hb
  · rw [del_ne h] at hb
    exact hb
theorem del_upd {H : Hp} {D : Addr} {o : HO} : del (upd H D o) D = del H D := by
  funext b
  by_cases h : b = D
  · rw [h, del_same, del_same]
  · rw [del_ne h, del_ne h, upd_ne h]
/-- the names that occur -/
def nmS : List Str := ["la", "lb", "lc", "ld", "away", "m", "other", "code"]
theorem nmS_ok : ∀ z ∈ nmS, isNmS z = true ∧ z.length ≤ 1000 ∧ PyData.strOk z = true := by decide +kernel
theorem str_kinds : PyData.strOk sPiece = true ∧ PyData.strOk sName = true := by decide +kernel
def OkU (u : List Key) : Prop := ∃ k z, u = [.inr k, .inr z] ∧ (k = sPiece ∨ k = sName) ∧ z ∈ nmS
def OkM : WordM → Prop
  | .num _ => True
  | .sum _ l => l.length ≤ 4 ∧ ∀ q ∈ l, OkU q.1 ∧ -4 ≤ q.2 ∧ q.2 ≤ 4
/-- a word as it is told, and as it is read -/
def rawD : WordM → PyData
  | .num k => .int k
  | .sum n l => sumD n l
def readM : WordM → Int × Mul
  | .num k => (k, [])
  | .sum n l => (n, form (accAll l))
def readD (w : WordM) : PyData := sumD (readM w).1 (readM w).2
theorem okU_pn {u : List Key} (h : OkU u) : PnU u := by
  obtain ⟨k, z, e, hk, _⟩ := h
  exact ⟨k, z, e, hk⟩
theorem okU_nm {u : List Key} (h : OkU u) : NmU u := pn_nm (okU_pn h)
theorem okU_read {u : List Key} (h : OkU u) : readUnk (unkD u) = some u := by
  obtain ⟨k, z, rfl, hk, hz⟩ := h
  obtain ⟨h1, _⟩ := nmS_ok z hz
  show unkOf k (.str z) = _
  unfold unkOf ofKey
  rcases hk with rfl | rfl
  · rw [show rank sPiece = some 0 by decide +kernel, if_neg (by decide +kernel)]
    simp [h1]
  · rw [show rank sName = some 1 by decide +kernel, if_neg (by decide +kernel)]
    simp [h1]
theorem readParts_ok : ∀ {l acc : Mul}, (∀ q ∈ l, OkU q.1) → readParts (l.map partD) acc = some (l.foldl (fun a q => addP a q.1 q.2) acc)
  | [], acc, _ => rfl
  | q :: l, acc, h => by
    have e : addPart acc (partD q) = some (addP acc q.1 q.2) := by
      show (readUnk (unkD q.1)).map _ = _
      rw [okU_read (h q (List.mem_cons_self ..))]
      rfl
    show (addPart acc (partD q)).bind (readParts (l.map partD)) = _
    rw [e]
    exact readParts_ok fun q' hq => h q' (List.mem_cons_of_mem _ hq)
theorem read_ok {w : WordM} (h : OkM w) : readSum (rawD w) = some ((readM w).1, (readM w).2) := by
  cases w with
  | num k => rfl
  | sum n l =>
    show ((readParts (l.map partD) []).map fun kvs => (n, form kvs)) = _
    rw [readParts_ok fun q hq => (h.2 q hq).1]
    rfl
theorem okSum_ok {w : WordM} (h : OkM w) : okSum (rawD w) := by
  cases w with
  | num k => exact fun n q ds e => by cases e
  | sum n l =>
    intro n' q ds e1 e2
    have e1' : some [PyData.int n, .tuple (l.map partD)] = some [.int n', q] := e1
    cases e1'
    cases e2
    refine ⟨by rw [List.length_map]; have := h.1; omega, fun p hp => ?_⟩
    obtain ⟨⟨u, m⟩, hq, rfl⟩ := List.mem_map.mp hp
    obtain ⟨⟨k, z, e, hk, hz⟩, _⟩ := h.2 _ hq
    have e : u = [.inr k, .inr z] := e
    subst e
    intro x m' e3
    have e3' : some [unkD [.inr k, .inr z], PyData.int m] = some [x, .int m'] := e3
    cases e3'
    refine ⟨fun xs c => (by cases c), ⟨?_, (nmS_ok z hz).2.1⟩, fun u' hu' => ?_⟩
    · show k.length ≤ 1000
      rcases hk with rfl | rfl <;> decide +kernel
    · have ou : OkU [.inr k, .inr z] := ⟨k, z, rfl, hk, hz⟩
      rw [okU_read ou] at hu'
      rw [← Option.some.inj hu']
      exact okU_nm ou
theorem acc_keys {Pr : List Key → Prop} : ∀ {l acc : Mul}, (∀ q ∈ l, Pr q.1) → (∀ u ∈ acc.map (·.1), Pr u) → ∀ u ∈ (l.foldl (fun a q => addP a q.1 q.2) acc).map (·.1), Pr u
  | [], acc, _, h => h
  | q :: l, acc, hl, h => by
    rw [List.foldl_cons]
    exact acc_keys (fun q' hq => hl q' (List.mem_cons_of_mem _ hq)) (addP_keys h (hl q (List.mem_cons_self ..)))
theorem acc_len : ∀ (l acc : Mul), (l.foldl (fun a q => addP a q.1 q.2) acc).length ≤ acc.length + l.length
  | [], acc => Nat.le_refl _
  | q :: l, acc => by
    rw [List.foldl_cons]
    refine Nat.le_trans (acc_len l _) ?_
    have := addP_len acc q.1 q.2
    rw [List.length_cons]
    omega
theorem form_keys {l : Mul} {u : List Key} (h : u ∈ (form l).map (·.1)) : u ∈ l.map (·.1) ∧ getI l u ≠ 0 := by
  unfold form at h
  rw [List.map_map] at h
  obtain ⟨u', hu, rfl⟩ := List.mem_map.mp h
  have hk := (List.mergeSort_perm _ _).mem_iff.mp hu
  exact ⟨(List.mem_filter.mp hk).1, keysN_mem.mp hk⟩
theorem form_len (l : Mul) : (form l).length ≤ l.length := by
  unfold form keysN
  rw [List.length_map, (List.mergeSort_perm _ _).length_eq]
  refine Nat.le_trans (List.length_filter_le _ _) ?_
  rw [List.length_map]
  exact Nat.le_refl _
theorem form_val {l : Mul} {q : List Key × Int} (h : q ∈ form l) : q.2 = getI l q.1 := by
  unfold form at h
  obtain ⟨u, _, rfl⟩ := List.mem_map.mp h
  rfl
theorem lin_small {v : List Key} : ∀ {l : Mul}, (∀ q ∈ l, -4 ≤ q.2 ∧ q.2 ≤ 4) → -(4 * (l.length : Int)) ≤ lin (isU v) l ∧ lin (isU v) l ≤ 4 * (l.length : Int)
  | [], _ => by simp [lin]
  | q :: l, h => by
    have ih := lin_small (v := v) (l := l) fun q' hq => h q' (List.mem_cons_of_mem _ hq)
    have hq := h q (List.mem_cons_self ..)
    simp only [lin, List.length_cons]
    have e : isU v q.1 = 0 ∨ isU v q.1 = 1 := by
      unfold isU
      split
      · exact .inr rfl
      · exact .inl rfl
    rcases e with e | e
    · rw [e]
      omega
    · rw [e]
      omega
theorem readM_sm {w : WordM} (h : OkM w) : SmM (readM w).2 ∧ (∀ u ∈ (readM w).2.map (·.1), OkU u) ∧ (readM w).2.length ≤ 4 := by
  cases w with
  | num k => exact ⟨fun q hq => (by cases hq), fun u hu => (by cases hu), Nat.zero_le _⟩
  | sum n l =>
    obtain ⟨nd, hl⟩ := acc_go l [] List.nodup_nil
    refine ⟨fun q hq => ?_, fun u hu => acc_keys (Pr := OkU) (fun q hq => (h.2 q hq).1) (fun u hu => (by cases hu)) u (form_keys hu).1, ?_⟩
    · have e : q.2 = getI (l.foldl (fun a q => addP a q.1 q.2) []) q.1 := form_val hq
      rw [getI_lin nd, hl] at e
      have b := lin_small (v := q.1) (l := l) fun q' hq' => (h.2 q' hq').2
      have := h.1
      simp only [lin] at e
      constructor <;> omega
    · refine Nat.le_trans (form_len _) ?_
      refine Nat.le_trans (acc_len l []) ?_
      have := h.1
      show 0 + _ ≤ _
      omega
theorem part_lay {u : List Key} {m : Int} (h : OkU u) : (partD (u, m)).canLay0 = true ∧ (partD (u, m)).depth ≤ 3 := by
  obtain ⟨k, z, rfl, hk, hz⟩ := h
  have hz' := (nmS_ok z hz).2.2
  have hk' : PyData.strOk k = true := by
    rcases hk with rfl | rfl
    · exact str_kinds.1
    · exact str_kinds.2
  constructor
  · simp [partD, unkD, keyDat, PyData.canLay0, PyData.canLayAll0, hz', hk']
  · simp [partD, unkD, keyDat, PyData.depth, PyData.depthAll]
theorem parts_lay : ∀ {ps : Mul}, (∀ u ∈ ps.map (·.1), OkU u) → PyData.canLayAll0 (ps.map partD) = true ∧ PyData.depthAll (ps.map partD) ≤ 3
  | [], _ => ⟨rfl, by simp [PyData.depthAll]⟩
  | (u, m) :: ps, h => by
    obtain ⟨h1, h2⟩ := parts_lay (ps := ps) fun u' hu => h u' (List.mem_cons_of_mem _ hu)
    obtain ⟨g1, g2⟩ := part_lay (m := m) (h u (List.mem_cons_self ..))
    rw [List.map_cons]
    constructor
    · simp only [PyData.canLayAll0]
      rw [g1, h1]
      rfl
    · simp only [PyData.depthAll]
      omega
theorem sum_lay {n : Int} {ps : Mul} (h : ∀ u ∈ ps.map (·.1), OkU u) : (sumD n ps).canLay0 = true ∧ (sumD n ps).depth ≤ 5 := by
  obtain ⟨h1, h2⟩ := parts_lay h
  constructor
  · simp only [sumD, PyData.canLay0, PyData.canLayAll0, h1]
    rfl
  · simp only [sumD, PyData.depth, PyData.depthAll]
    omega
theorem reads_lay : ∀ {ws : List WordM}, (∀ w ∈ ws, OkM w) → PyData.canLayAll0 (ws.map readD) = true ∧ PyData.depthAll (ws.map readD) ≤ 5
  | [], _ => ⟨rfl, by simp [PyData.depthAll]⟩
  | w :: ws, h => by
    obtain ⟨h1, h2⟩ := reads_lay (ws := ws) fun w' hw => h w' (List.mem_cons_of_mem _ hw)
    obtain ⟨g1, g2⟩ := sum_lay (n := (readM w).1) (readM_sm (h w (List.mem_cons_self ..))).2.1
    rw [List.map_cons]
    have g1' : (readD w).canLay0 = true := g1
    have g2' : (readD w).depth ≤ 5 := g2
    constructor
    · simp only [PyData.canLayAll0]
      rw [g1', h1]
      rfl
    · simp only [PyData.depthAll]
      omega
theorem reads_shaped {ws : List WordM} (h : ∀ w ∈ ws, OkM w) : SeqAt.shaped (.list (ws.map readD)) = true := by
  obtain ⟨h1, h2⟩ := reads_lay h
  unfold SeqAt.shaped
  rw [Bool.and_eq_true]
  refine ⟨by simpa [PyData.canLay0] using h1, decide_eq_true ?_⟩
  simp only [PyData.depth]
  omega
theorem reads_none : ∀ ws : List WordM, ((ws.map readD).any fun z => PyData.eqv z .none) = false
  | [] => rfl
  | w :: ws => by
    rw [List.map_cons, List.any_cons, reads_none ws]
    simp [readD, sumD, PyData.eqv]
/-! ### rows, as told and as read -/
def WordT (H : Hp) (v : V) (w : WordM) : Prop := SumT H v (readM w).1 (readM w).2
theorem wordT_s {H H' : Hp} (e : TupS H H') {v : V} {w : WordM} (h : WordT H v w) : WordT H' v w := sumT_s e h
theorem wordsT_dp {K : PySem.W.Frag} {H : Hp} : ∀ {xs : List V} {ws : List WordM}, PySem.W.EachIs (WordT H) xs ws → DpAll K H xs (ws.map readD)
  | _, _, .nil => .nil
  | _, _, .cons h t => .cons (sumT_dp h) (wordsT_dp t)
/-- the dict NEAR_CODES -/
def nearL : List Str := ["ask", "go", "call"]
structure Near (K : PySem.W.Frag) (w : World) (mg : Str → Option Value) (d : Addr) : Prop where
  g : mg "NEAR_CODES" = some (.ref d)
  kd : ∃ es n, KDict K w d es n
  has : ∀ z ∈ nearL, ∃ r, PySem.W.nsIn K d z = some (some r)
def RowL (K : PySem.W.Frag) (H : Hp) (v : V) : Row → Prop
  | .words ws => ∃ (a b : Addr) (xs : List V), v = .ref a ∧ SqT K H a [.str "words", .ref b] ∧ SqL K H b xs ∧ DpAll K H xs (ws.map rawD)
  | .label s => ∃ a, v = .ref a ∧ SqT K H a [.str "label", .str s]
  | .even n => ∃ a, v = .ref a ∧ SqT K H a [.str "even", .int n]
  | .branch c n m => ∃ a, v = .ref a ∧ SqT K H a [.str "branch", .str c, .str n, .int m]
theorem rowL_V {K : PySem.W.Frag} {H : Hp} {v : V} {r : Row} (h : RowL K H v r) : RowV K H v r := by
  cases r with
  | words ws =>
    obtain ⟨a, b, xs, h1, h2, h3, h4⟩ := h
    exact ⟨a, b, h1, h2, xs, .inl h3, by rw [dps_len h4, List.length_map]⟩
  | label s => exact h
  | even n => exact h
  | branch c n m => exact h
theorem rowL_same {K : PySem.W.Frag} {H H' : Hp} {v : V} {r : Row} (e : Same H H') (h : RowL K H v r) : RowL K H' v r := by
  cases r with
  | words ws =>
    obtain ⟨a, b, xs, h1, h2, h3, h4⟩ := h
    exact ⟨a, b, xs, h1, sqT_same e h2, sqL_same e h3, dps_same e h4⟩
  | label s => exact rowV_same (r := .label s) e h
  | even n => exact rowV_same (r := .even n) e h
  | branch c n m => exact rowV_same (r := .branch c n m) e h
/-- a row that was read: tuples alone -/
def RowP (K : PySem.W.Frag) (H : Hp) (v : V) : Row → Prop
  | .words ws => ∃ a b xs, v = .ref a ∧ SqT K H a [.str "words", .ref b] ∧ SqT K H b xs ∧ PySem.W.EachIs (WordT H) xs ws
  | .label s => ∃ a, v = .ref a ∧ SqT K H a [.str "label", .str s]
  | .even n => ∃ a, v = .ref a ∧ SqT K H a [.str "even", .int n]
  | .branch c n m => ∃ a, v = .ref a ∧ SqT K H a [.str "branch", .str c, .str n, .int m]
theorem rowP_V {K : PySem.W.Frag} {H : Hp} {v : V} {r : Row} (h : RowP K H v r) : RowV K H v r := by
  cases r with
  | words ws =>
    obtain ⟨a, b, xs, h1, h2, h3, h4⟩ := h
    exact ⟨a, b, h1, h2, xs, .inr h3, h4.length⟩
  | label s => exact h
  | even n => exact h
  | branch c n m => exact h
/-- all tuples stay -/
structure KpT (K : PySem.W.Frag) (H H' : Hp) : Prop where
  sq : ∀ a xs, SqT K H a xs → SqT K H' a xs
  tu : TupS H H'
theorem KpT.of {K : PySem.W.Frag} {H H' : Hp} (e : Same H H') : KpT K H H' := ⟨fun _ _ h => sqT_same e h, TupS.of e⟩
theorem KpT.trans {K : PySem.W.Frag} {H H1 H' : Hp} (e : KpT K H H1) (f : KpT K H1 H') : KpT K H H' := ⟨fun a xs h => f.sq a xs (e.sq a xs h), e.tu.trans f.tu⟩
theorem rowP_of {K : PySem.W.Frag} {H H' : Hp} {v : V} {r : Row} (e : KpT K H H') (h : RowP K H v r) : RowP K H' v r := by
  cases r with
  | words ws =>
    obtain ⟨a, b, xs, h1, h2, h3, h4⟩ := h
    exact ⟨a, b, xs, h1, e.sq _ _ h2, e.sq _ _ h3, eachs_imp (fun _ _ => wordT_s e.tu) h4⟩
  | label s =>
    obtain ⟨a, h1, h2⟩ := h
    exact ⟨a, h1, e.sq _ _ h2⟩
  | even n =>
    obtain ⟨a, h1, h2⟩ := h
    exact ⟨a, h1, e.sq _ _ h2⟩
  | branch c n m =>
    obtain ⟨a, h1, h2⟩ := h
    exact ⟨a, h1, e.sq _ _ h2⟩
def notTup : HO → Prop
  | .tup _ => False
  | .frz _ (.tup _) => False
  | _ => True
/-- a tuple stays where something else changes -/
theorem sqT_put {K : PySem.W.Frag} {H : Hp} {a S : Addr} {xs : List V} {o o' : HO} (h : SqT K H a xs) (hS : H S = some o) (ho : notTup o) : SqT K (upd H S o') a xs := by
  rcases h with (h | ⟨u, h⟩) | h
  · have aS : a ≠ S := fun z => by
      rw [z, hS] at h
      cases h
      exact ho
    exact .inl (.inl (by rw [upd_ne aS]; exact h))
  · have aS : a ≠ S := fun z => by
      rw [z, hS] at h
      cases h
      exact ho
    exact .inl (.inr ⟨u, by rw [upd_ne aS]; exact h⟩)
  · exact .inr h
theorem KpT.put {K : PySem.W.Frag} {H : Hp} {S : Addr} {o o' : HO} (hS : H S = some o) (ho : notTup o) : KpT K H (upd H S o') := ⟨fun a xs h => sqT_put h hS ho, TupS.put hS fun xs z => by
  subst z
  exact ho⟩
/-- a row that is one -/
def RowFine : Row → Prop
  | .words ws => ws.length ≤ 900 ∧ ∀ w ∈ ws, OkM w
  | .label s => isNmS s = true ∧ s.length ≤ 1000
  | .even n => 1 ≤ n ∧ n ≤ 64
  | .branch c n _ => c ∈ nearL ∧ isNmS n = true ∧ n.length ≤ 1000
theorem fine_ok {r : Row} (h : RowFine r) : RowOk r := by
  cases r with
  | even n => exact (by have h1 : 1 ≤ n ∧ n ≤ 64 := h; show 0 < n; omega)
  | _ => trivial
def spReadWords (K : PySem.W.Frag) : Sp := fun vs H Q _ => ∃ (b : Addr) (xs : List V) (ws : List WordM), vs = [.ref b] ∧ SqL K H b xs ∧ DpAll K H xs (ws.map rawD) ∧ RowFine (.words ws) ∧ ∀ H' v', Same H H' → RowP K H' v' (.words ws) → Q v' H'
def spReadBranch (K : PySem.W.Frag) : Sp := fun vs H Q _ => ∃ (c n : Str) (m : Int), vs = [.str c, .str n, .int m] ∧ RowFine (.branch c n m) ∧ ∀ H' v', Same H H' → RowP K H' v' (.branch c n m) → Q v' H'
def spReadRow (K : PySem.W.Frag) : Sp := fun vs H Q _ => ∃ v r, vs = [v] ∧ RowL K H v r ∧ RowFine r ∧ ∀ H' v', Same H H' → RowP K H' v' r → Q v' H'
abbrev sReadWords : Stmt := topS 37
abbrev sReadBranch : Stmt := topS 38
abbrev sReadRow : Stmt := topS 39
theorem scReadWords : FnScope ["thing", "sums", "word"] ["thing"] (defScope sReadWords) := ⟨rfl, rfl, rfl, by decide +kernel, rfl, by decide +kernel, by decide +kernel⟩
theorem scReadBranch : FnScope ["called", "n", "more"] ["called", "n", "more"] (defScope sReadBranch) := ⟨rfl, rfl, rfl, by decide +kernel, rfl, by decide +kernel, by decide +kernel⟩
theorem scReadRow : FnScope ["thing", "kind", "of"] ["thing"] (defScope sReadRow) := ⟨rfl, rfl, rfl, by decide +kernel, rfl, by decide +kernel, by decide +kernel⟩
/-- is_row of a list or tuple, whatever it holds -/
def spIsRowR (K : PySem.W.Frag) : Sp := fun vs H Q _ => ∃ a xs, vs = [.ref a] ∧ SqE K H a xs ∧ ∀ H', Same H H' → Q (.bl true) H'
section
variable {P : Program} {w : World} {K : PySem.W.Frag} {mg : Str → Option Value} {base : Heap}
theorem ok_isRowR {f : Addr} {fd : FuncData} (F : Fun K "is_row" "is_row" sIsRow f fd) (T : Bi mg) : FnOk P w K mg base CX0 1 f fd ["thing"] (spIsRowR K) := by
  refine F.ok scIsRow (fun vs H Q E h => ?_) (fun cdv A outer s H vs Q E hr h => ?_)
  · obtain ⟨a, xs, rfl, _⟩ := h
    rfl
  · obtain ⟨a, xs, rfl, ha, q⟩ := h
    refine ⟨_, (pss_one (ps_ret (pe_callB call_isiT (by rfl) T.isinstance (by decide +kernel) (pa_cons (pv 0) (pa_cons (pe_tup (pa_cons (pe_bltn (v := .ty "list") (by rfl) T.list (by decide +kernel) rfl) (pa_cons (pe_bltn (v := .ty "tuple") (by rfl) T.tuple (by decide +kernel) rfl) pa_nil))) pa_nil))))), ?_⟩
    refine ⟨_, rfl, (by show 2 ≤ sizeLine; decide), fun p hp => ?_⟩
    rcases ha with ha | ha
    · exact ⟨.ref a, p, _, _, _, _, rfl, upd_same, .cons (.ty "list") (.cons (.ty "tuple") .nil), ty_list (sqL_same (same_new hp) ha), kit_row (.list []), q _ (same_new hp)⟩
    · exact ⟨.ref a, p, _, _, _, _, rfl, upd_same, .cons (.ty "list") (.cons (.ty "tuple") .nil), ty_tup (sqT_same (same_new hp) ha), kit_row (.tuple []), q _ (same_new hp)⟩
theorem hu65 {A : Around} {k : Nat} (hr : Room k A) : A.units + 65 < cLine := by
  have := hr.un
  omega
theorem ok_readWords {f : Addr} {fd : FuncData} (F : Fun K "read_words" "read_words" sReadWords f fd) (T : Bi mg) (G1 : Has P w K mg base CX0 4 "is_row" ["thing"] (spIsRow K)) (G2 : Has P w K mg base CX0 4 "read_sum" ["thing"] (spReadSum K)) : FnOk P w K mg base CX0 5 f fd ["thing"] (spReadWords K) := by
  refine F.ok scReadWords (fun vs H Q E h => ?_) (fun cdv A outer s H vs Q E hr h => ?_)
  · obtain ⟨b, xs, ws, rfl, _⟩ := h
    rfl
  · obtain ⟨b, xs, ws, rfl, hb, hxs, ⟨hl, hok⟩, q⟩ := h
    refine ⟨_, (pss_cons (ps_if (pt_not (pt_val (pe_callH G1 hr (by rfl) pass0 (pa_cons (pv 0) pa_nil)))) (pss_one (ps_ret pe_non)) pss_nil)
      (pss_cons (ps_setLc (i := 1) (own := [("word", 2)]) (g := gName 2) (tt := tYes) rfl scReadWords.nd rfl rfl (sw_true rfl rfl rfl (by decide +kernel)) (pi_list (pv 0)) (blkOk_by (N := ["thing", "sums", "word"]) (sc := defScope sReadWords) (by decide +kernel)) (fun _ _ _ _ _ => pg_name (i := 2) scReadWords.nd rfl (.inl rfl)) (fun _ _ _ _ _ => pts_nil) (fun _ _ _ _ _ => (pe_callH G2 hr (by rfl) pass0 (pa_cons (pv 2) pa_nil))))
      (pss_one (ps_ret (pe_ifExp (pt_cmpR (op_inD (hu65 hr)) pe_non (pv 1) (by rfl)) pe_non (pe_tup (pa_cons pe_str (pa_cons (pe_callTy call_tuple_of (by rfl) T.tuple (by decide +kernel) (pa_cons (pv 1) pa_nil)) pa_nil)))))))), ?_⟩
    have lx : xs.length = ws.length := by rw [dps_len hxs, List.length_map]
    refine ⟨_, rfl, _, _, rfl, .dat (.lst hb hxs), fun H1 s1 => ⟨_, rfl, iteF ?_⟩⟩
    have hb1 := sqL_same s1 hb
    refine ⟨_, rfl, b, rfl, ⟨_, hb1⟩, fun D hD => ?_⟩
    refine lc_it walk_list (fun i H4 => (∀ c o, c ≠ D → H1 c = some o → H4 c = some o) ∧ ∃ ys, H4 D = some (.lst ys) ∧ PySem.W.EachIs (WordT H4) ys (ws.take i)) ⟨fun c o hc e => by rw [upd_ne hc]; exact e, [], upd_same, .nil⟩
      (fun i H4 _ ⟨kp, _⟩ => sqL_same (fun c o e => kp c o (ne_of_none e hD) e) hb1) ?_ ?_
    · rintro i x H4 H4' hi ⟨kp, ys, hD4, hys⟩ ⟨rfl, hx⟩
      obtain ⟨dw, hdw, hxd⟩ := dps_get (dps_same s1 hxs) hx
      rw [List.getElem?_map] at hdw
      obtain ⟨wd, hwd, rfl⟩ := Option.map_eq_some_iff.mp hdw
      have hi2 : i < ws.length := (List.getElem?_eq_some_iff.mp hwd).1
      have okw := hok wd (List.mem_of_getElem? hwd)
      have s14 : Same H1 H4' := fun c o e => kp c o (ne_of_none e hD) e
      refine ⟨rfl, yes_go (iteT ⟨_, rfl, x, rawD wd, rfl, .dat (dp_same s14 hxd), okSum_ok okw, fun v5 H5 s5 hv5 => ?_⟩)⟩
      rw [read_ok okw] at hv5
      have hD5 := s5 _ _ hD4
      have yl : ys.length = i := by
        rw [hys.length, List.length_take]
        omega
      refine ⟨ys, hD5, small1000 (by omega), fun c o hc ec => ?_, ys ++ [v5], upd_same, ?_⟩
      · rw [upd_ne hc]
        exact s5 _ _ (kp c o hc ec)
      · rw [List.take_add_one, hwd]
        have tp : TupS H5 (upd H5 D (.lst (ys ++ [v5]))) := TupS.put hD5 (by intro xs z; cases z)
        exact eachs_snoc (wordT_s tp hv5) (eachs_imp (fun _ _ => wordT_s ((TupS.of s5).trans tp)) hys)
    · rintro H4 ⟨kp, ys, hD4, hys⟩
      rw [lx, List.take_length] at hys
      have s4 : Same H H4 := fun c o e => kp c o (ne_of_none (s1 _ _ e) hD) (s1 _ _ e)
      refine ⟨_, rfl, .none, ws.map readD, .non, .lst (SqL.of hD4) (wordsT_dp hys), rfl, reads_shaped hok, _, rfl, ?_⟩
      rw [reads_none]
      refine iteF ⟨_, rfl, D, ys, rfl, .inl ⟨SqL.of hD4, fun t ht => ⟨(by show 2 ≤ sizeLine; decide), fun p hp => ?_⟩⟩⟩
      exact q _ _ ((s4.trans (same_new ht)).trans (same_new hp)) ⟨p, t, ys, rfl, SqT.of upd_same, SqT.of (same_new hp _ _ upd_same), eachs_imp (fun _ _ => wordT_s (TupS.of ((same_new ht).trans (same_new hp)))) hys⟩
end

theorem in_ints {k : Int} {ns : List Int} {b : Bool} (h : decide (k ∈ ns) = b) : inV (.int k) (ns.map V.int) = b := by
  rw [inV_ints]
  exact h
theorem intEqb {a b : Int} {Q : Bool → Prop} {c : Bool} (h : decide (a = b) = c) (q : Q c) : Q (decide (V.int a = V.int b)) := by
  rw [intEq, h]
  exact q
section
variable {P : Program} {w : World} {K : PySem.W.Frag} {mg : Str → Option Value} {base : Heap}
theorem ok_readBranch {f d0 : Addr} {fd : FuncData} (F : Fun K "read_branch" "read_branch" sReadBranch f fd) (T : Bi mg) (N : Near K w mg d0) (G1 : Has P w K mg base CX0 2 "is_name" ["thing"] (spIsName K)) (G2 : Has P w K mg base CX0 2 "is_integer" ["thing"] (spIsInt K)) :
    FnOk P w K mg base CX0 3 f fd ["called", "n", "more"] (spReadBranch K) := by
  refine F.ok scReadBranch (fun vs H Q E h => ?_) (fun cdv A outer s H vs Q E hr h => ?_)
  · obtain ⟨c, n, m, rfl, _⟩ := h
    rfl
  · obtain ⟨c, n, m, rfl, hf, q⟩ := h
    obtain ⟨h1, h2, h3⟩ := hf
    obtain ⟨es, nn, kd⟩ := N.kd
    obtain ⟨r, hr1⟩ := N.has c h1
    refine ⟨_, (pss_cons (ps_if (PW.pt (pw_or (pt_not (pt_val (pe_callB call_isi (by rfl) T.isinstance (by decide +kernel) (pa_cons (pv 0) (pa_cons (pe_bltn (v := .ty "str") (by rfl) T.str (by decide +kernel) rfl) pa_nil))))) (pw_or (pt_cmpR (op_notIn_kd kd) (pv 0) (pe_glob (v := .ref d0) rfl N.g rfl) (by rfl)) (pw_or (pt_not (pt_val (pe_callH G1 hr (by rfl) pass0 (pa_cons (pv 1) pa_nil)))) (pw_or1 (pt_not (pt_val (pe_callH G2 hr (by rfl) pass0 (pa_cons (pv 2) pa_nil))))))))) (pss_one (ps_ret pe_non)) pss_nil)
      (pss_one (ps_ret (pe_tup (pa_cons pe_str (pa_cons (pv 0) (pa_cons (pv 1) (pa_cons (pv 2) pa_nil)))))))), ?_⟩
    refine ⟨_, rfl, _, _, _, _, _, rfl, .ty "str", th_ty (.dat (.str c)), kit_str (.str c), _, rfl, iteF ?_⟩
    refine ⟨_, rfl, c, _, rfl, rfl, hr1, _, rfl, iteF ?_⟩
    refine ⟨_, rfl, _, _, rfl, .dat (.str n), h3, fun H1 s1 => ⟨_, rfl, ?_⟩⟩
    have en : isNm (.str n) = true := h2
    rw [en]
    refine iteF ⟨_, rfl, _, _, rfl, .dat (.int m), _, rfl, iteF ?_⟩
    exact ⟨_, rfl, _, rfl, _, rfl, (by show 4 ≤ sizeLine; decide), fun p hp => q _ _ (s1.trans (same_new hp)) ⟨p, rfl, SqT.of upd_same⟩⟩
theorem ok_readRow {f : Addr} {fd : FuncData} (F : Fun K "read_row" "read_row" sReadRow f fd) (T : Bi mg) (G1 : Has P w K mg base CX0 5 "is_row" ["thing"] (spIsRow K)) (G2 : Has P w K mg base CX0 5 "is_name" ["thing"] (spIsName K)) (G3 : Has P w K mg base CX0 5 "is_integer" ["thing"] (spIsInt K))
    (G4 : Has P w K mg base CX0 5 "read_branch" ["called", "n", "more"] (spReadBranch K)) (G5 : Has P w K mg base CX0 5 "read_words" ["thing"] (spReadWords K)) : FnOk P w K mg base CX0 6 f fd ["thing"] (spReadRow K) := by
  refine F.ok scReadRow (fun vs H Q E h => ?_) (fun cdv A outer s H vs Q E hr h => ?_)
  · obtain ⟨v, r, rfl, _⟩ := h
    rfl
  · obtain ⟨v, r, rfl, hv, hf, q⟩ := h
    refine ⟨_, (pss_cons (ps_if (PW.pt (pw_or (pt_not (pt_val (pe_callH G1 hr (by rfl) pass0 (pa_cons (pv 0) pa_nil)))) (pw_or (pt_cmpR op_notIn_seq (pe_callB call_len_seq (by rfl) T.len (by decide +kernel) (pa_cons (pv 0) pa_nil)) (pe_tup (pa_cons pe_int (pa_cons pe_int pa_nil))) (by rfl)) (pw_or1 (pt_not (pt_val (pe_callB call_isi (by rfl) T.isinstance (by decide +kernel) (pa_cons (pe_ix ix_tup (pv 0) pe_int (fun _ _ => rfl)) (pa_cons (pe_bltn (v := .ty "str") (by rfl) T.str (by decide +kernel) rfl) pa_nil))))))))) (pss_one (ps_ret pe_non)) pss_nil)
      (pss_cons (ps_if (pt_cmpR op_eq (pe_callB call_len_seq (by rfl) T.len (by decide +kernel) (pa_cons (pv 0) pa_nil)) pe_int (nomark _)) (pss_one (ps_ret (pe_ifExp (pt_cmpR op_eq (pe_ix ix_tup (pv 0) pe_int (fun _ _ => rfl)) pe_str (nomark _)) (pe_callH G4 hr (by rfl) pass0 (pa_cons (pe_ix ix_tup (pv 0) pe_int (fun _ _ => rfl)) (pa_cons (pe_ix ix_tup (pv 0) pe_int (fun _ _ => rfl)) (pa_cons (pe_ix ix_tup (pv 0) pe_int (fun _ _ => rfl)) pa_nil)))) pe_non))) pss_nil)
      (pss_cons (ps_asg (pv 0) (pg_tup rfl (pgs_cons (pg_name (i := 1) scReadRow.nd rfl (.inl rfl)) (pgs_cons (pg_name (i := 2) scReadRow.nd rfl (.inl rfl)) pgs_nil))))
      (pss_cons (ps_if (pt_cmpR op_eq (pv 1) pe_str (nomark _)) (pss_one (ps_ret (pe_callH G5 hr (by rfl) pass0 (pa_cons (pv 2) pa_nil)))) pss_nil)
      (pss_cons (ps_if (PW.pt (pw_and (pt_cmpR op_eq (pv 1) pe_str (nomark _)) (pw_and1 (pt_val (pe_callH G2 hr (by rfl) pass0 (pa_cons (pv 2) pa_nil)))))) (pss_one (ps_ret (pe_tup (pa_cons pe_str (pa_cons (pv 2) pa_nil))))) pss_nil)
      (pss_cons (ps_if (PW.pt (pw_and (pt_cmpR op_eq (pv 1) pe_str (nomark _)) (pw_and (pt_val (pe_callH G3 hr (by rfl) pass0 (pa_cons (pv 2) pa_nil))) (pw_and1 (pt_chain op_le op_le pe_int (pv 2) pe_int))))) (pss_one (ps_ret (pe_tup (pa_cons pe_str (pa_cons (pv 2) pa_nil))))) pss_nil)
      (pss_one (ps_ret pe_non)))))))), ?_⟩
    cases r with
    | words ws =>
      obtain ⟨a, b, xs, rfl, h2, h3, h4⟩ := hv
      have hd : Dp K H (.ref a) (.tuple [.str "words", .list (ws.map rawD)]) := .tup h2 (.cons (.str _) (.cons (.lst h3 h4) .nil))
      refine ⟨_, rfl, _, _, rfl, .dat hd, fun H1 s1 => ⟨_, rfl, iteF ?_⟩⟩
      have h21 := sqT_same s1 h2
      refine ⟨_, rfl, a, _, rfl, .inr h21, (by show 2 ≤ sizeLine; decide), fun p hp => ?_⟩
      have s2 := s1.trans (same_new (o := .tup [V.int 2, V.int 4]) hp)
      have h22 := sqT_same s2 h2
      refine ⟨p, [V.int 2, V.int 4], rfl, .inr (SqT.of upd_same), rfl, rfl, _, rfl, iteF ?_⟩
      refine ⟨_, rfl, a, _, _, _, rfl, rfl, h22, at_of (i := 0) rfl, _, _, _, _, _, rfl, .ty "str", th_ty (.dat (.str _)), kit_str (.str _), _, rfl, iteF ?_⟩
      refine ⟨_, rfl, a, _, rfl, .inr h22, rfl, _, rfl, iteF ?_⟩
      refine ⟨_, rfl, a, _, rfl, h22, rfl, _, _, rfl, _, _, rfl, rfl, ?_⟩
      refine ⟨_, rfl, rfl, _, rfl, kEq (by decide +kernel) ?_⟩
      exact ⟨_, rfl, b, xs, ws, rfl, sqL_same s2 h3, dps_same s2 h4, hf, fun H' v' s3 hv' => q H' v' (s2.trans s3) hv'⟩
    | label z =>
      obtain ⟨a, rfl, h2⟩ := hv
      have hd : Dp K H (.ref a) (.tuple [.str "label", .str z]) := .tup h2 (.cons (.str _) (.cons (.str _) .nil))
      refine ⟨_, rfl, _, _, rfl, .dat hd, fun H1 s1 => ⟨_, rfl, iteF ?_⟩⟩
      have h21 := sqT_same s1 h2
      refine ⟨_, rfl, a, _, rfl, .inr h21, (by show 2 ≤ sizeLine; decide), fun p hp => ?_⟩
      have s2 := s1.trans (same_new (o := .tup [V.int 2, V.int 4]) hp)
      have h22 := sqT_same s2 h2
      refine ⟨p, [V.int 2, V.int 4], rfl, .inr (SqT.of upd_same), rfl, rfl, _, rfl, iteF ?_⟩
      refine ⟨_, rfl, a, _, _, _, rfl, rfl, h22, at_of (i := 0) rfl, _, _, _, _, _, rfl, .ty "str", th_ty (.dat (.str _)), kit_str (.str _), _, rfl, iteF ?_⟩
      refine ⟨_, rfl, a, _, rfl, .inr h22, rfl, _, rfl, iteF ?_⟩
      refine ⟨_, rfl, a, _, rfl, h22, rfl, _, _, rfl, _, _, rfl, rfl, ?_⟩
      refine ⟨_, rfl, rfl, _, rfl, kNe (by decide +kernel) ?_⟩
      refine ⟨_, rfl, rfl, _, rfl, kEq (by decide +kernel) ?_⟩
      refine ⟨_, rfl, _, _, rfl, .dat (.str z), hf.2, fun H3 s3 => ⟨_, rfl, ?_⟩⟩
      have en : isNm (.str z) = true := hf.1
      rw [en]
      exact iteT ⟨_, rfl, (by show 2 ≤ sizeLine; decide), fun p2 hp2 => q _ _ ((s2.trans s3).trans (same_new hp2)) ⟨p2, rfl, SqT.of upd_same⟩⟩
    | even n =>
      obtain ⟨a, rfl, h2⟩ := hv
      have hd : Dp K H (.ref a) (.tuple [.str "even", .int n]) := .tup h2 (.cons (.str _) (.cons (.int _) .nil))
      refine ⟨_, rfl, _, _, rfl, .dat hd, fun H1 s1 => ⟨_, rfl, iteF ?_⟩⟩
      have h21 := sqT_same s1 h2
      refine ⟨_, rfl, a, _, rfl, .inr h21, (by show 2 ≤ sizeLine; decide), fun p hp => ?_⟩
      have s2 := s1.trans (same_new (o := .tup [V.int 2, V.int 4]) hp)
      have h22 := sqT_same s2 h2
      refine ⟨p, [V.int 2, V.int 4], rfl, .inr (SqT.of upd_same), rfl, rfl, _, rfl, iteF ?_⟩
      refine ⟨_, rfl, a, _, _, _, rfl, rfl, h22, at_of (i := 0) rfl, _, _, _, _, _, rfl, .ty "str", th_ty (.dat (.str _)), kit_str (.str _), _, rfl, iteF ?_⟩
      refine ⟨_, rfl, a, _, rfl, .inr h22, rfl, _, rfl, iteF ?_⟩
      refine ⟨_, rfl, a, _, rfl, h22, rfl, _, _, rfl, _, _, rfl, rfl, ?_⟩
      refine ⟨_, rfl, rfl, _, rfl, kNe (by decide +kernel) ?_⟩
      refine ⟨_, rfl, rfl, _, rfl, kNe (by decide +kernel) (iteF ?_)⟩
      refine ⟨_, rfl, rfl, _, rfl, kEq (by decide +kernel) ?_⟩
      refine ⟨_, rfl, _, _, rfl, .dat (.int n), _, rfl, iteT ?_⟩
      have hf1 : 1 ≤ n ∧ n ≤ 64 := hf
      refine ⟨_, rfl, _, _, rfl, rfl, _, rfl, ?_⟩
      rw [decide_eq_true hf1.1]
      refine iteT ⟨_, _, rfl, rfl, _, rfl, ?_⟩
      rw [decide_eq_true hf1.2]
      exact iteT ⟨_, rfl, (by show 2 ≤ sizeLine; decide), fun p2 hp2 => q _ _ (s2.trans (same_new hp2)) ⟨p2, rfl, SqT.of upd_same⟩⟩
    | branch c n m =>
      obtain ⟨a, rfl, h2⟩ := hv
      have hd : Dp K H (.ref a) (.tuple [.str "branch", .str c, .str n, .int m]) := .tup h2 (.cons (.str _) (.cons (.str _) (.cons (.str _) (.cons (.int _) .nil))))
      refine ⟨_, rfl, _, _, rfl, .dat hd, fun H1 s1 => ⟨_, rfl, iteF ?_⟩⟩
      have h21 := sqT_same s1 h2
      refine ⟨_, rfl, a, _, rfl, .inr h21, (by show 2 ≤ sizeLine; decide), fun p hp => ?_⟩
      have s2 := s1.trans (same_new (o := .tup [V.int 2, V.int 4]) hp)
      have h22 := sqT_same s2 h2
      refine ⟨p, [V.int 2, V.int 4], rfl, .inr (SqT.of upd_same), rfl, rfl, _, rfl, iteF ?_⟩
      refine ⟨_, rfl, a, _, _, _, rfl, rfl, h22, at_of (i := 0) rfl, _, _, _, _, _, rfl, .ty "str", th_ty (.dat (.str _)), kit_str (.str _), _, rfl, iteF ?_⟩
      refine ⟨_, rfl, a, _, rfl, .inr h22, rfl, _, rfl, iteT ?_⟩
      refine ⟨_, rfl, a, _, _, _, rfl, rfl, h22, at_of (i := 0) rfl, rfl, _, rfl, kEq (by decide +kernel) ?_⟩
      refine ⟨_, rfl, a, _, _, _, rfl, rfl, h22, at_of (i := 1) rfl, _, rfl, a, _, _, _, rfl, rfl, h22, at_of (i := 2) rfl, _, rfl, a, _, _, _, rfl, rfl, h22, at_of (i := 3) rfl, ?_⟩
      exact ⟨c, n, m, rfl, hf, fun H' v' s3 hv' => q H' v' (s2.trans s3) hv'⟩
end

/-- y = {k: v for ..}, y a local name -/
theorem ps_setDc {X : Cx} {i : Nat} {y : Str} {py : Pos} {kx vx tg iter : Expr} {ifs : List Expr} {scope : Scope} {own : List (Str × Nat)} {pos spos : Pos} {wi : TI} {g : TG} {tt : TT} {tk tv : TE} (calm : X.calm = true) (nd : X.N.Nodup) (slot : X.N[i]? = some y) (isLoc : X.env.scope.names.lookup y = some .local)
    (sw : swapsWith (.DictComp kx vx [⟨tg, iter, ifs, 0⟩] scope pos) (some (.Name y py)) spos.line X.env = pure true) (hi : PI X tg iter wi) (ok : BlkOk X.N X.env.scope scope own)
    (p1 : ∀ (s : Shared) (H : Hp) (C : Addr) (cl : List (Str × Addr)) (fp : List Addr), PG (X.blk s H scope (compEnvC scope cl C X.env) fp) tg g)
    (p2 : ∀ (s : Shared) (H : Hp) (C : Addr) (cl : List (Str × Addr)) (fp : List Addr), PTs (X.blk s H scope (compEnvC scope cl C X.env) fp) ifs tt)
    (p3 : ∀ (s : Shared) (H : Hp) (C : Addr) (cl : List (Str × Addr)) (fp : List Addr), PE (X.blk s H scope (compEnvC scope cl C X.env) fp) kx tk)
    (p4 : ∀ (s : Shared) (H : Hp) (C : Addr) (cl : List (Str × Addr)) (fp : List Addr), PE (X.blk s H scope (compEnvC scope cl C X.env) fp) vx tv) (fold : ∀ x, foldedSetIterable iter X.env x = pure x := by intro _; rfl) :
    PS X (.Assign [.Name y py] (.DictComp kx vx [⟨tg, iter, ifs, 0⟩] scope pos) spos) (tAsg (tDc wi g tt tk tv (own.map (·.2))) (gName i)) := by
  constructor
  intro pins s σ H D I want
  rw [exec_Assign_Name_used _ _ _ _ sw]
  refine wpAny_bind (wpAny_standAt (wpAny_bind ?_))
  show wpAny _ X.A (do let _ ← comprehension (.DictComp kx vx [⟨tg, iter, ifs, 0⟩] scope pos) scope X.env (firstIterPos [⟨tg, iter, ifs, 0⟩] pos) newDict false (eval iter X.env) (some (assign (.Name y py) X.env))) _ _ s
  have want' : tDc wi g tt tk tv (own.map (·.2)) σ H (fun x H1 => gName i x σ H1 D.nx) := want
  refine wpAny_bind (thn (dc_core (Qf := fun _ s' => SP X pins D .next s') calm nd I hi ok p1 p2 p3 p4 fold want' fun L C s' m H' I' q hn ff => ?_) fun _ s' hq => wpAny_pure (wpAny_pure hq))
  show wpAny _ _ (assign (.Name y py) X.env (.ref L)) _ _ _
  refine wpAny_assign_Name (store_ok2 (v := V.ref L) I' nd slot (.inl isLoc) rfl (fun s2 I2 there => ?_) (.inr isLoc))
  obtain ⟨a, sb, ha⟩ := there
  have ⟨u0, u1, u2, u3, u4, u5⟩ := ff
  have apart : C ≠ a := by
    rcases ha with z | z
    · exact fun e => u1 (e.trans z)
    · exact fun e => u4 y a z e.symm
  exact ⟨m, hn.sameBut sb apart, fun h3 sb3 => ⟨_, H', I2.turned (t' := s2.toks) (fun b o hb e => (sb3.2 b hb).trans e) u0 u1 u3 u4 u5, q⟩⟩
theorem sw_dict {kx vx : Expr} {gs : List Comprehension} {scope : Scope} {pos py : Pos} {y : Str} {l : Nat} {env : Env} (isF : env.scope.kind = .function) (isL : env.scope.names.lookup y = some .local) (line : (py.line == pos.line) = true)
    (not : (scope.names.any fun (n, k) => n == y && (k == .local || k == .cell)) = false) : swapsWith (.DictComp kx vx gs scope pos) (some (.Name y py)) l env = pure true := by
  have k1 : env.kindOf y = some .local := isL
  have k2 : env.blockKind = .function := by
    unfold Env.blockKind
    rw [isF]
    rfl
  unfold swapsWith
  simp only [k2, k1, not, Expr.pos, line]
  rfl
/-- the labels of the first i rows, as keys -/
def labT (rs : List Row) : Nat → List (Key × V)
  | 0 => []
  | i + 1 => match labOf rs i with
    | some s => putK (labT rs i) (Sum.inr s) (.bl true)
    | none => labT rs i
theorem labT_len (rs : List Row) : ∀ i, (labT rs i).length ≤ i
  | 0 => Nat.le_refl _
  | i + 1 => by
    unfold labT
    have h := labT_len rs i
    split
    · have := length_putK (labT rs i) (Sum.inr (by assumption) : Key) (.bl true)
      omega
    · omega
theorem labT_val (rs : List Row) (n : Str) : ∀ i, (∀ j, j < i → labOf rs j ≠ some n) → valV (labT rs i) (Sum.inr n) = none
  | 0, _ => rfl
  | i + 1, h => by
    have ih := labT_val rs n i fun j hj => h j (by omega)
    unfold labT
    cases e : labOf rs i with
    | none => exact ih
    | some s =>
      dsimp only
      rw [valV_put]
      have hn : ¬ (Sum.inr n : Key) = Sum.inr s := fun z => h i (by omega) (by rw [e, Sum.inr.inj z])
      rw [if_neg hn]
      exact ih
theorem labT_succ {rs : List Row} {i : Nat} {r : Row} (h : rs[i]? = some r) : labT rs (i + 1) = match labR r with
    | some s => putK (labT rs i) (Sum.inr s) (.bl true)
    | none => labT rs i := by
  show (match labOf rs i with | some s => putK (labT rs i) (Sum.inr s) (.bl true) | none => labT rs i) = _
  rw [labOf_at h]
structure DrOk (rs : List Row) : Prop where
  fine : ∀ r ∈ rs, RowFine r
  len : rs.length ≤ 900
  uniq : ∀ (i : Nat) (s : Str), labOf rs i = some s → ∀ j, j < i → labOf rs j ≠ some s
  zero : ∀ (k : Nat) (c n : Str) (m : Int), rs[k]? = some (.branch c n m) → m ≠ 0 → ∀ j, labOf rs j ≠ some n
inductive RowsP (K : PySem.W.Frag) (H : Hp) : List V → List Row → Prop
  | nil : RowsP K H [] []
  | cons {v : V} {vs : List V} {r : Row} {rs : List Row} : RowP K H v r → RowsP K H vs rs → RowsP K H (v :: vs) (r :: rs)
theorem rowsP_of {K : PySem.W.Frag} {H H' : Hp} (e : KpT K H H') : ∀ {xs : List V} {rs : List Row}, RowsP K H xs rs → RowsP K H' xs rs
  | _, _, .nil => .nil
  | _, _, .cons h t => .cons (rowP_of e h) (rowsP_of e t)
theorem rowsP_V {K : PySem.W.Frag} {H : Hp} : ∀ {xs : List V} {rs : List Row}, RowsP K H xs rs → RowsV K H xs rs
  | _, _, .nil => .nil
  | _, _, .cons h t => .cons (rowP_V h) (rowsP_V t)
theorem rowsP_snoc {K : PySem.W.Frag} {H : Hp} {v : V} {r : Row} (hv : RowP K H v r) : ∀ {xs : List V} {rs : List Row}, RowsP K H xs rs → RowsP K H (xs ++ [v]) (rs ++ [r])
  | _, _, .nil => .cons hv .nil
  | _, _, .cons h t => .cons h (rowsP_snoc hv t)
inductive RowsL (K : PySem.W.Frag) (H : Hp) : List V → List Row → Prop
  | nil : RowsL K H [] []
  | cons {v : V} {vs : List V} {r : Row} {rs : List Row} : RowL K H v r → RowsL K H vs rs → RowsL K H (v :: vs) (r :: rs)
theorem rowsL_same {K : PySem.W.Frag} {H H' : Hp} (e : Same H H') : ∀ {xs : List V} {rs : List Row}, RowsL K H xs rs → RowsL K H' xs rs
  | _, _, .nil => .nil
  | _, _, .cons h t => .cons (rowL_same e h) (rowsL_same e t)
theorem rowsL_get {K : PySem.W.Frag} {H : Hp} : ∀ {xs : List V} {rs : List Row}, RowsL K H xs rs → ∀ {i : Nat} {v : V}, xs[i]? = some v → ∃ r, rs[i]? = some r ∧ RowL K H v r
  | _, _, .nil, i, v, h => by simp at h
  | _, _, .cons g t, 0, v, e => by
    obtain rfl : _ = v := Option.some.inj e
    exact ⟨_, rfl, g⟩
  | _, _, .cons g t, i + 1, v, e => rowsL_get t (i := i) e
theorem rowsL_V {K : PySem.W.Frag} {H : Hp} : ∀ {xs : List V} {rs : List Row}, RowsL K H xs rs → RowsV K H xs rs
  | _, _, .nil => .nil
  | _, _, .cons h t => .cons (rowL_V h) (rowsL_V t)
theorem rowsV_snoc {K : PySem.W.Frag} {H : Hp} {v : V} {r : Row} (hv : RowV K H v r) : ∀ {xs : List V} {rs : List Row}, RowsV K H xs rs → RowsV K H (xs ++ [v]) (rs ++ [r])
  | _, _, .nil => .cons hv .nil
  | _, _, .cons h t => .cons h (rowsV_snoc hv t)
theorem rowV_ref {K : PySem.W.Frag} {H : Hp} {v : V} {r : Row} (h : RowV K H v r) : decide (v = .non) = false := by
  obtain ⟨a, xs, rfl, _⟩ := rowV_tup h
  rfl
def spReadRows (K : PySem.W.Frag) : Sp := fun vs H Q _ => ∃ (L : Addr) (xs : List V) (rs : List Row), vs = [.ref L] ∧ SqL K H L xs ∧ RowsL K H xs rs ∧ DrOk rs ∧ ∀ H' p ys, Same H H' → H p = none → H' p = some (.lst ys) → RowsP K H' ys rs → Q (.ref p) H'
abbrev sReadRows : Stmt := topS 40
theorem scReadRows : FnScope ["rows", "found", "row", "labels", "stood", "index", "thing"] ["rows"] (defScope sReadRows) := ⟨rfl, rfl, rfl, by decide +kernel, rfl, by decide +kernel, by decide +kernel⟩
abbrev rNN : R2 := fun x y H Q => y = .non ∧ Q (.bl (!decide (x = .non))) H
section
variable {P : Program} {w : World} {K : PySem.W.Frag} {mg : Str → Option Value} {base : Heap}
theorem row0_is {H : Hp} {a : Addr} {xs : List V} {k z : Str} {b : Bool} {F : Bool → Hp → Prop} {σ : L2.St} {i : Nat} (hs : σ[i]? = some (some (.ref a))) (h : SqT K H a xs) (h0 : xs[0]? = some (.str k)) (hb : decide (k = z) = b) (q : F b H) : row0Is K i z σ H F := by
  refine ⟨_, hs, a, xs, 0, _, rfl, rfl, h, at_of (i := 0) h0, rfl, b, ?_, q⟩
  rw [strEq, hb]
theorem lab_kind (r : Row) : decide (kindOf r = ("label" : Str)) = (labR r).isSome := by
  cases r with
  | label s => exact (by decide +kernel : decide (("label" : Str) = "label") = true)
  | words n => exact (by decide +kernel : decide (("words" : Str) = "label") = false)
  | even n => exact (by decide +kernel : decide (("even" : Str) = "label") = false)
  | branch c n m => exact (by decide +kernel : decide (("branch" : Str) = "label") = false)
theorem br_kind (r : Row) : decide (kindOf r = ("branch" : Str)) = (match r with | .branch _ _ _ => true | _ => false) := by
  cases r with
  | label s => exact (by decide +kernel : decide (("label" : Str) = "branch") = false)
  | words n => exact (by decide +kernel : decide (("words" : Str) = "branch") = false)
  | even n => exact (by decide +kernel : decide (("even" : Str) = "branch") = false)
  | branch c n m => exact (by decide +kernel : decide (("branch" : Str) = "branch") = true)
theorem ok_readRows {f : Addr} {fd : FuncData} (F : Fun K "read_rows" "read_rows" sReadRows f fd) (T : Bi mg) (G1 : Has P w K mg base CX0 6 "is_row" ["thing"] (spIsRowR K)) (G2 : Has P w K mg base CX0 6 "read_row" ["thing"] (spReadRow K)) : FnOk P w K mg base CX0 7 f fd ["rows"] (spReadRows K) := by
  refine F.ok scReadRows (fun vs H Q E h => ?_) (fun cdv A outer s H vs Q E hr h => ?_)
  · obtain ⟨L, xs, rs, rfl, _⟩ := h
    rfl
  · obtain ⟨L, xs, rs, rfl, hL, hrs, ok, q⟩ := h
    have hu := hu_of hr
    refine ⟨_, (pss_cons (ps_if (pt_not (pt_val (pe_callH G1 hr (by rfl) pass0 (pa_cons (pv 0) pa_nil)))) (pss_one ps_never) pss_nil)
      (pss_cons (ps_setLc (i := 1) (own := [("thing", 6)]) (g := gName 6) (tt := tYes) rfl scReadRows.nd rfl rfl (sw_true rfl rfl rfl (by decide +kernel)) (pi_list (pv 0)) (blkOk_by (N := ["rows", "found", "row", "labels", "stood", "index", "thing"]) (sc := defScope sReadRows) (by decide +kernel)) (fun _ _ _ _ _ => pg_name (i := 6) scReadRows.nd rfl (.inl rfl)) (fun _ _ _ _ _ => pts_nil) (fun _ _ _ _ _ => (pe_callH G2 hr (by rfl) pass0 (pa_cons (pv 6) pa_nil))))
      (pss_cons (ps_setDc (i := 3) (own := [("row", 2)]) (g := gName 2) (tt := tAnd (tTest (tOp rNN (tVar 2) (tC .non))) (row0Is K 2 "label")) (tk := ixT K 2 1) (tv := tC (.bl true)) rfl scReadRows.nd rfl rfl (sw_dict rfl rfl rfl (by decide +kernel)) (pi_list (pv 1)) (blkOk_by (N := ["rows", "found", "row", "labels", "stood", "index", "thing"]) (sc := defScope sReadRows) (by decide +kernel)) (fun _ _ _ _ _ => pg_name (i := 2) scReadRows.nd rfl (.inl rfl))
          (fun _ _ _ _ _ => pts_one (PW.pt (pw_and (pt_cmpR op_notN (pv 2) pe_non (nomark _)) (pw_and1 (pt_cmpR op_eq (pe_ix ix_tup (pv 2) pe_int (fun _ _ => rfl)) pe_str (nomark _)))))) (fun _ _ _ _ _ => pe_ix ix_tup (pv 2) pe_int (fun _ _ => rfl)) (fun _ _ _ _ _ => pe_bl))
      (pss_cons (ps_set (i := 4) scReadRows.nd rfl (.inl rfl) (pe_dnewK))
      (pss_cons (ps_for PassesOwn.never rfl (pi_enum (by rfl) T.enumerate (pa_cons (pv 1) pa_nil)) (pg_tup rfl (pgs_cons (pg_name (i := 5) scReadRows.nd rfl (.inl rfl)) (pgs_cons (pg_name (i := 2) scReadRows.nd rfl (.inl rfl)) pgs_nil)))
          (pss_cons (ps_if (PW.pt (pw_or (pt_cmpR op_isN (pv 2) pe_non (nomark _)) (pw_or1 (PW.pt (pw_and (pt_cmpR op_eq (pe_ix ix_tup (pv 2) pe_int (fun _ _ => rfl)) pe_str (nomark _)) (pw_and1 (pt_cmp (pc_din hu (pe_ix ix_tup (pv 2) pe_int (fun _ _ => rfl)) (pv 4))))))))) (pss_one ps_never) pss_nil)
          (pss_cons (ps_if (pt_cmpR op_eq (pe_ix ix_tup (pv 2) pe_int (fun _ _ => rfl)) pe_str (nomark _)) (pss_one (ps_dput hu (pv 4) (pe_ix ix_tup (pv 2) pe_int (fun _ _ => rfl)) pe_bl rfl)) pss_nil)
          (pss_one (ps_if (PW.pt (pw_and (pt_cmpR op_eq (pe_ix ix_tup (pv 2) pe_int (fun _ _ => rfl)) pe_str (nomark _)) (pw_and (pt_cmpR op_ne (pe_ix ix_tup (pv 2) pe_int (fun _ _ => rfl)) pe_int (nomark _)) (pw_and1 (pt_cmp (pc_din hu (pe_ix ix_tup (pv 2) pe_int (fun _ _ => rfl)) (pv 3))))))) (pss_one ps_never) pss_nil)))))
      (pss_one (ps_ret (pv 1)))))))), ?_⟩
    refine ⟨_, rfl, L, xs, rfl, .inl hL, fun H1 s1 => ⟨_, rfl, iteF ?_⟩⟩
    have hL1 := sqL_same s1 hL
    have hrs1 := rowsL_same s1 hrs
    have lx := rowsV_len (rowsL_V hrs)
    have ol := ok.len
    refine ⟨_, rfl, L, rfl, ⟨_, hL1⟩, fun D hD => ?_⟩
    refine lc_it walk_list (fun i H4 => (∀ c o, c ≠ D → H1 c = some o → H4 c = some o) ∧ ∃ ys, H4 D = some (.lst ys) ∧ RowsP K H4 ys (rs.take i)) ⟨fun c o hc e => by rw [upd_ne hc]; exact e, [], upd_same, .nil⟩
      (fun i H4 _ ⟨kp, _⟩ => sqL_same (fun c o e => kp c o (ne_of_none e hD) e) hL1) ?_ ?_
    · rintro i x H4 H4' hi ⟨kp, ys, hD4, hys⟩ ⟨rfl, hx⟩
      obtain ⟨r, hri, hrv⟩ := rowsL_get hrs1 hx
      have hri2 : i < rs.length := (List.getElem?_eq_some_iff.mp hri).1
      have hrv4 : RowL K H4' x r := rowL_same (fun c o e => kp c o (ne_of_none e hD) e) hrv
      refine ⟨rfl, yes_go (iteT ⟨_, rfl, x, r, rfl, hrv4, ok.fine r (List.mem_of_getElem? hri), fun H5 v5 s5 hv5 => ?_⟩)⟩
      have hD5 := s5 _ _ hD4
      have yl : ys.length = i := by
        rw [rowsV_len (rowsP_V hys), List.length_take]
        omega
      refine ⟨ys, hD5, small1000 (by omega), fun c o hc ec => ?_, ys ++ [v5], upd_same, ?_⟩
      · rw [upd_ne hc]
        exact s5 _ _ (kp c o hc ec)
      · rw [List.take_add_one, hri]
        have put : ∀ (o : HO), KpT K H5 (upd H5 D o) := fun o => KpT.put hD5 trivial
        exact rowsP_snoc (rowP_of (put _) hv5) (rowsP_of ((KpT.of s5).trans (put _)) hys)
    · rintro H4 ⟨kp, ys, hD4, hys⟩
      rw [lx, List.take_length] at hys
      have yl := rowsV_len (rowsP_V hys)
      have hysV := rowsP_V hys
      have s4 : Same H H4 := fun c o e => kp c o (ne_of_none (s1 _ _ e) hD) (s1 _ _ e)
      have hDn : H D = none := by
        cases e : H D with
        | none => rfl
        | some o => rw [s1 _ _ e] at hD; cases hD
      -- the labels
      refine ⟨_, rfl, D, rfl, ⟨_, SqL.of hD4⟩, fun E1 hE1 => ?_⟩
      have hED : E1 ≠ D := fun z => by rw [z, hD4] at hE1; cases hE1
      refine dc_it walk_list (fun i H5 => (∀ c o, c ≠ E1 → H4 c = some o → H5 c = some o) ∧ H5 E1 = some (.dK (labT rs i))) ⟨fun c o hc e => by rw [upd_ne hc]; exact e, upd_same⟩ (fun i H5 _ ⟨kp5, _⟩ => SqL.of (kp5 _ _ hED.symm hD4)) ?_ ?_
      · rintro i x H5 H5' hi ⟨kp5, hE5⟩ ⟨rfl, hx⟩
        obtain ⟨r, hri, hrv⟩ := rowsV_get hysV hx
        have s45 : Same H4 H5' := fun c o e => kp5 c o (ne_of_none e hE1) e
        have hrv5 : RowV K H5' x r := rowV_same s45 hrv
        have hri2 : i < rs.length := (List.getElem?_eq_some_iff.mp hri).1
        refine ⟨rfl, _, rfl, rfl, _, rfl, ?_⟩
        rw [rowV_ref hrv5]
        obtain ⟨a, zs, rfl, ht, h0⟩ := rowV_tup hrv5
        refine iteT (row0_is rfl ht h0 (lab_kind r) ?_)
        have es := labT_succ hri
        cases el : labR r with
        | none =>
          rw [el] at es
          refine iteF ⟨kp5, ?_⟩
          rw [es]
          exact hE5
        | some z =>
          rw [el] at es
          obtain rfl : r = .label z := by
            cases r with
            | label z' => cases el; rfl
            | _ => cases el
          obtain ⟨a', ea, h2⟩ := hrv5
          refine iteT ⟨_, rfl, a', _, _, _, ea, rfl, h2, at_of (i := 1) rfl, labT rs i, Sum.inr z, rfl, hE5, ?_, fun c o hc e => ?_, ?_⟩
          · have := labT_len rs i
            exact small1000 (by omega)
          · rw [upd_ne hc]
            exact kp5 c o hc e
          · rw [upd_same, es]
      · rintro H5 ⟨kp5, hE5⟩
        rw [yl] at hE5
        have s45 : Same H4 H5 := fun c o e => kp5 c o (ne_of_none e hE1) e
        -- the loop
        refine fun S hS => ?_
        have s56 : Same H5 (upd H5 S (.dK [])) := same_new hS
        have hDS : D ≠ S := ne_of_none (s45 _ _ hD4) hS
        have hES : E1 ≠ S := ne_of_none hE5 hS
        refine ⟨_, rfl, D, ys, rfl, SqL.of (s56 _ _ (s45 _ _ hD4)), ?_⟩
        refine for_it walk_enum (fun i σ H6 => ∃ (a b : Option V), σ = [some (.ref L), some (.ref D), a, some (.ref E1), some (.ref S), b, none] ∧ Same H5 H6 ∧ H6 S = some (.dK (labT rs i))) ⟨none, none, rfl, s56, upd_same⟩ (fun i σ H6 _ ⟨_, _, _, s6, _⟩ => SqL.of (s6 _ _ (s45 _ _ hD4))) ?_ ?_
        · rintro i x σ H6 H6' hi ⟨a, b, rfl, s6, hS6⟩ ⟨TT, x', y, rfl, hT, rfl, hx', hy⟩
          cases hx'
          obtain ⟨r, hri, hrv⟩ := rowsV_get hysV hy
          have s67 : Same H6 (upd H6 TT (.tup [.int (i : Nat), y])) := same_new hT
          generalize hH7 : upd H6 TT (.tup [.int (i : Nat), y]) = H7 at s67
          have hTv : H7 TT = some (.tup [.int (i : Nat), y]) := by rw [← hH7]; exact upd_same
          have hrv7 : RowV K H7 y r := rowV_same ((s45.trans s6).trans s67) hrv
          have hri2 : i < rs.length := (List.getElem?_eq_some_iff.mp hri).1
          have hS7 := s67 _ _ hS6
          have hE7 := s67 _ _ (s6 _ _ hE5)
          have es := labT_succ hri
          have lab := labOf_at hri
          refine ⟨TT, _, rfl, SqT.of hTv, rfl, _, _, rfl, _, _, rfl, rfl, ?_⟩
          refine ⟨_, rfl, rfl, _, rfl, ?_⟩
          rw [rowV_ref hrv7]
          obtain ⟨ta, zs, rfl, ht, h0⟩ := rowV_tup hrv7
          have fin : ∀ {H8 : Hp}, Same H5 H8 → H8 S = some (.dK (labT rs (i + 1))) → ∃ (a b : Option V), ([some (.ref L), some (.ref D), some (.ref ta), some (.ref E1), some (.ref S), some (.int (i : Nat)), none] : L2.St) = [some (.ref L), some (.ref D), a, some (.ref E1), some (.ref S), b, none] ∧ Same H5 H8 ∧ H8 S = some (.dK (labT rs (i + 1))) := fun h1 h2 => ⟨_, _, rfl, h1, h2⟩
          have s57 := s6.trans s67
          refine iteF (row0_is rfl ht h0 (lab_kind r) ?_)
          cases el : labR r with
          | some z =>
            rw [el] at es lab
            obtain rfl : r = .label z := by
              cases r with
              | label z' => cases el; rfl
              | _ => cases el
            obtain ⟨a', ea, h2⟩ := hrv7
            cases ea
            have none1 : valV (labT rs i) (Sum.inr z) = none := labT_val rs z i fun j hj => ok.uniq i z lab j hj
            refine iteT ⟨_, rfl, ta, _, _, _, rfl, rfl, h2, at_of (i := 1) rfl, _, rfl, S, _, rfl, DGet.k (k := Sum.inr z) hS7, _, rfl, ?_⟩
            rw [none1]
            refine iteF ?_
            refine ⟨_, rfl, ta, _, _, _, rfl, rfl, h2, at_of (i := 0) rfl, rfl, _, rfl, kEq (by decide +kernel) ?_⟩
            refine ⟨_, rfl, _, rfl, ta, _, _, _, rfl, rfl, h2, at_of (i := 1) rfl, S, _, rfl, DPut.k (k := Sum.inr z) hS7 ?_, ?_⟩
            · have := labT_len rs i
              exact small1000 (by omega)
            · have h3 : SqT K (upd H7 S (.dK (putK (labT rs i) (Sum.inr z) (.bl true)))) ta [.str "label", .str z] := sqT_put h2 hS7 trivial
              refine ⟨_, rfl, ta, _, _, _, rfl, rfl, h3, at_of (i := 0) rfl, rfl, _, rfl, kNe (by decide +kernel) ?_⟩
              refine iteF (fin ?_ ?_)
              · intro c o hc
                have cS : c ≠ S := ne_of_none hc hS
                rw [upd_ne cS]
                exact s57 _ _ hc
              · rw [upd_same, es]
          | none =>
            rw [el] at es
            refine iteF ?_
            refine iteF ?_
            refine ⟨_, rfl, ta, zs, _, _, rfl, rfl, ht, at_of (i := 0) h0, rfl, _, rfl, ?_⟩
            rw [strEq, lab_kind, el]
            refine iteF ?_
            refine ⟨_, rfl, ta, zs, _, _, rfl, rfl, ht, at_of (i := 0) h0, rfl, _, rfl, ?_⟩
            rw [strEq, br_kind]
            have hS8 : H7 S = some (.dK (labT rs (i + 1))) := by rw [es]; exact hS7
            cases r with
            | branch c n m =>
              obtain ⟨a', ea, h2⟩ := hrv7
              cases ea
              refine iteT ⟨_, rfl, ta, _, _, _, rfl, rfl, h2, at_of (i := 3) rfl, rfl, _, rfl, ?_⟩
              rw [intEq]
              by_cases hm : m = 0
              · rw [decide_eq_true hm]
                exact iteF (iteF (fin s57 hS8))
              · rw [decide_eq_false hm]
                have none2 : valV (labT rs rs.length) (Sum.inr n) = none := labT_val rs n _ fun j _ => ok.zero i c n m hri hm j
                refine iteT ⟨_, rfl, ta, _, _, _, rfl, rfl, h2, at_of (i := 2) rfl, _, rfl, E1, _, rfl, DGet.k (k := Sum.inr n) hE7, _, rfl, ?_⟩
                rw [none2]
                exact iteF (fin s57 hS8)
            | words n => exact iteF (iteF (fin s57 hS8))
            | even n => exact iteF (iteF (fin s57 hS8))
            | label z => cases el
        · rintro σ H6 ⟨a, b, rfl, s6, hS6⟩
          refine ⟨_, rfl, q H6 D ys ((s4.trans s45).trans s6) hDn (s6 _ _ (s45 _ _ hD4)) (rowsP_of (KpT.of (s45.trans s6)) hys)⟩
end

/-! ### drafts -/
def drF (p q d o : Addr) : List (Str × V) := [("parts", .ref p), ("forks", .ref q), ("aims", .ref d), ("outs", .ref o)]
structure DrAt (K : PySem.W.Frag) (H : Hp) (C x : Addr) (rs : List Row) (dx p q d o : Addr) (xs : List V) : Prop where
  ins : H x = some (.ins C dx (drF p q d o))
  parts : SqT K H p xs
  rows : RowsP K H xs rs
  forks : SqT K H q (nats (brs rs))
  aims : H d = some (.dK (aimD rs))
  outs : SqT K H o (nats (outs rs))
theorem DrAt.same {K : PySem.W.Frag} {H H' : Hp} {C x : Addr} {rs : List Row} {dx p q d o : Addr} {xs : List V} (e : Same H H') (h : DrAt K H C x rs dx p q d o xs) : DrAt K H' C x rs dx p q d o xs :=
  ⟨e _ _ h.ins, sqT_same e h.parts, rowsP_of (KpT.of e) h.rows, sqT_same e h.forks, e _ _ h.aims, sqT_same e h.outs⟩
/-- a draft of these rows at x -/
def DraftV (K : PySem.W.Frag) (H : Hp) (C x : Addr) (rs : List Row) : Prop := DrOk rs ∧ ∃ dx p q d o xs, DrAt K H C x rs dx p q d o xs
theorem draftV_same {K : PySem.W.Frag} {H H' : Hp} {C x : Addr} {rs : List Row} (e : Same H H') (h : DraftV K H C x rs) : DraftV K H' C x rs := by
  obtain ⟨ok, dx, p, q, d, o, xs, h⟩ := h
  exact ⟨ok, dx, p, q, d, o, xs, h.same e⟩
/-- what is known of the class -/
structure DrC (K : PySem.W.Frag) (C : Addr) : Prop where
  cl : Cls K C
  n1 : NoAttr K C "parts"
  n2 : NoAttr K C "forks"
  n3 : NoAttr K C "aims"
  n4 : NoAttr K C "outs"
theorem toOf_at {rs : List Row} {i : Nat} {r : Row} (h : rs[i]? = some r) : toOf rs i = match r with
    | .branch _ n _ => some n
    | _ => none := by
  have e : toOf rs i = (match some r with | some (.branch _ n _) => some n | _ => none) := by
    rw [← h]
    rfl
  rw [e]
  cases r <;> rfl
theorem isBr_at {rs : List Row} {i : Nat} {r : Row} (h : rs[i]? = some r) : isBr rs i = match r with
    | .branch _ _ _ => true
    | _ => false := by
  have e : isBr rs i = (match some r with | some (.branch _ _ _) => true | _ => false) := by
    rw [← h]
    rfl
  rw [e]
  cases r <;> rfl
theorem brsTo_succ (rs : List Row) (i : Nat) : brsTo rs (i + 1) = brsTo rs i ++ (if isBr rs i = true then [i] else []) := by
  unfold brsTo
  rw [List.range_succ, List.filter_append]
  congr 1
  cases e : isBr rs i <;> simp [List.filter, e]
theorem brsTo_len (rs : List Row) (i : Nat) : (brsTo rs i).length ≤ i := by
  unfold brsTo
  refine Nat.le_trans (List.length_filter_le _ _) ?_
  rw [List.length_range]
  exact Nat.le_refl _
theorem brs_nodup (rs : List Row) : (brs rs).Nodup := List.Nodup.sublist (List.filter_sublist ..) List.nodup_range
theorem brs_mem {rs : List Row} {k : Nat} (h : k ∈ brs rs) : ∃ c n m, rs[k]? = some (.branch c n m) := by
  unfold brs brsTo at h
  have h2 := (List.mem_filter.mp h).2
  unfold isBr at h2
  split at h2
  · rename_i c n m e
    exact ⟨c, n, m, e⟩
  · cases h2
theorem mem_inn {rs : List Row} {k : Nat} : k ∈ inn rs ↔ k < rs.length ∧ (aim rs k).isSome = true := by
  unfold inn innTo
  rw [List.mem_filter, List.mem_range]
theorem ne_of_none' {H : Hp} {x p : Addr} {o : HO} (h : H x = some o) (hp : H p = none) : p ≠ x := fun z => by
  rw [z, h] at hp
  cases hp
def spInit (K : PySem.W.Frag) (C : Addr) : Sp := fun vs H Q _ => ∃ (x L dx : Addr) (xs : List V) (rs : List Row), vs = [.ref x, .ref L] ∧ H x = some (.ins C dx []) ∧ SqL K H L xs ∧ RowsL K H xs rs ∧ DrOk rs ∧
  ∀ H', (∀ b o, b ≠ x → H b = some o → H' b = some o) → DraftV K H' C x rs → Q .non H'
abbrev sInit : Stmt := inClass (topS 51) 0
theorem scInit : FnScope ["self", "rows", "labels", "index", "row"] ["self", "rows"] (defScope sInit) := ⟨rfl, rfl, rfl, by decide +kernel, rfl, by decide +kernel, by decide +kernel⟩
abbrev tPart2 (K : PySem.W.Frag) : TE := tOp (rIxT K) (tOp (rIxT K) (tFld K (tVar 0) "parts") (tVar 3)) (tC (.int 2))
section
variable {P : Program} {w : World} {K : PySem.W.Frag} {mg : Str → Option Value} {base : Heap}
theorem ok_init {f C : Addr} {fd : FuncData} (F : Fun K "__init__" "Draft.__init__" sInit f fd) (T : Bi mg) (B : DrC K C) (G1 : Has P w K mg base CX0 7 "read_rows" ["rows"] (spReadRows K)) (G2 : Has P w K mg base CX0 7 "labels_in" ["rows"] (spLabelsIn K)) :
    FnOk P w K mg base CX0 8 f fd ["self", "rows"] (spInit K C) := by
  refine F.ok scInit (fun vs H Q E h => ?_) (fun cdv A outer s H vs Q E hr h => ?_)
  · obtain ⟨x, L, dx, xs, rs, rfl, _⟩ := h
    rfl
  · obtain ⟨x, L, dx, xs, rs, rfl, hx, hL, hrs, ok, qq⟩ := h
    have hu := hu_of hr
    refine ⟨_, (pss_cons (ps_fld (pv 0) (pe_callTy call_tuple_of (by rfl) T.tuple (by decide +kernel) (pa_cons (pe_callH G1 hr (by rfl) pass0 (pa_cons (pv 1) pa_nil)) pa_nil)) rfl)
      (pss_cons (ps_set (i := 2) scInit.nd rfl (.inr rfl) (pe_callH G2 hr (by rfl) pass0 (pa_cons (pe_fld (pv 0) rfl) pa_nil)))
      (pss_cons (ps_fld (pv 0) (pe_callTy call_tuple_of (by rfl) T.tuple (by decide +kernel) (pa_cons (pe_lc (own := [("index", 3), ("row", 4)]) (g := g2 K 3 4) (tt := row0Is K 4 "branch") rfl scInit.nd (pi_enumT (by rfl) T.enumerate (pa_cons (pe_fld (pv 0) rfl) pa_nil)) (blkOk_by (N := ["self", "rows", "labels", "index", "row"]) (sc := defScope sInit) (by decide +kernel))
          (fun _ _ _ _ _ => (pg_tup rfl (pgs_cons (pg_name (i := 3) scInit.nd rfl (.inl rfl) (.inr rfl)) (pgs_cons (pg_name (i := 4) scInit.nd rfl (.inl rfl) (.inr rfl)) pgs_nil)))) (fun _ _ _ _ _ => pts_one (pt_cmpR op_eq (pe_ix ix_tup (pv 4) pe_int (fun _ _ => rfl)) pe_str (nomark _))) (fun _ _ _ _ _ => pv 3)) pa_nil)) rfl)
      (pss_cons (ps_fld (pv 0) (pe_dc (own := [("index", 3)]) (g := gName 3) (tt := tB (tDIn (tPart2 K) (tVar 2))) (tk := tVar 3) (tv := tDGet (tVar 2) (tPart2 K)) rfl scInit.nd (pi_tup (pe_fld (pv 0) rfl)) (blkOk_by (N := ["self", "rows", "labels", "index", "row"]) (sc := defScope sInit) (by decide +kernel)) (fun _ _ _ _ _ => pg_name (i := 3) scInit.nd rfl (.inl rfl))
          (fun _ _ _ _ _ => pts_one (pt_cmp (pc_din hu (pe_ix ix_tup (pe_ix ix_tup (pe_fld (pv 0) rfl) (pv 3) (fun _ _ => rfl)) pe_int (fun _ _ => rfl)) (pv 2)))) (fun _ _ _ _ _ => pv 3) (fun _ _ _ _ _ => pe_dget hu (pv 2) (pe_ix ix_tup (pe_ix ix_tup (pe_fld (pv 0) rfl) (pv 3) (fun _ _ => rfl)) pe_int (fun _ _ => rfl)) (fun _ _ => rfl))) rfl)
      (pss_one (ps_fld (pv 0) (pe_callTy call_tuple_of (by rfl) T.tuple (by decide +kernel) (pa_cons (pe_lc (own := [("index", 3)]) (g := gName 3) (tt := tB (tDNotIn (tVar 3) (tFld K (tVar 0) "aims"))) rfl scInit.nd (pi_tup (pe_fld (pv 0) rfl)) (blkOk_by (N := ["self", "rows", "labels", "index", "row"]) (sc := defScope sInit) (by decide +kernel)) (fun _ _ _ _ _ => pg_name (i := 3) scInit.nd rfl (.inl rfl))
          (fun _ _ _ _ _ => pts_one (pt_cmp (pc_dnotin hu (pv 3) (pe_fld (pv 0) rfl)))) (fun _ _ _ _ _ => pv 3)) pa_nil)) rfl)))))), ?_⟩
    refine ⟨_, rfl, L, xs, rs, rfl, hL, hrs, ok, fun H1 D ys s1 hD0 hD hys => ⟨D, ys, rfl, .inl ⟨SqL.of hD, fun p hp => ?_⟩⟩⟩
    have lx := rowsV_len (rowsP_V hys)
    have ol := ok.len
    have pnx : p ≠ x := ne_of_none' (s1 _ _ hx) hp
    have s12 := s1.trans (same_new (o := .tup ys) hp)
    refine ⟨_, rfl, x, C, dx, [], rfl, s12 _ _ hx, B.cl, B.n1, (by decide), ?_⟩
    -- what stands but for x
    generalize hH3 : upd (upd H1 p (.tup ys)) x (.ins C dx (putF "parts" (.ref p) [])) = H3
    have k3 : ∀ b o, b ≠ x → H b = some o → H3 b = some o := fun b o hb e => by
      rw [← hH3, upd_ne hb]
      exact s12 _ _ e
    have x3 : H3 x = some (.ins C dx [("parts", .ref p)]) := by rw [← hH3, upd_same]; rfl
    have p3 : SqT K H3 p ys := SqT.of (by rw [← hH3, upd_ne pnx]; exact upd_same)
    have r3 : RowsP K H3 ys rs := by
      rw [← hH3]
      exact rowsP_of ((KpT.of (same_new hp)).trans (KpT.put (s12 _ _ hx) trivial)) hys
    refine ⟨_, rfl, x, C, dx, _, _, rfl, x3, B.cl, B.n1, rfl, p, ys, rs, rfl, p3, rowsP_V r3, ol, fun H4 l s4 hl0 hl => ?_⟩
    have x4 := s4 _ _ x3
    have p4 := sqT_same s4 p3
    have r4 : RowsP K H4 ys rs := rowsP_of (KpT.of s4) r3
    refine ⟨_, rfl, x, C, dx, _, _, rfl, x4, B.cl, B.n1, rfl, p, ys, rfl, p4, fun D2 hD2 => ?_⟩
    refine lc_it walk_enumT (fun i H5 => (∀ c o, c ≠ D2 → H4 c = some o → H5 c = some o) ∧ H5 D2 = some (.lst (nats (brsTo rs i)))) ⟨fun c o hc e => by rw [upd_ne hc]; exact e, upd_same⟩ (fun i H5 _ ⟨kp, _⟩ => sqT_same (fun c o e => kp c o (ne_of_none e hD2) e) p4) ?_ ?_
    · rintro i z H5 H5' hi ⟨kp, hD5⟩ ⟨TT, x', y, rfl, hT, rfl, hx', hy⟩
      cases hx'
      have s45 : Same H4 H5 := fun c o e => kp c o (ne_of_none e hD2) e
      have s5 : Same H5 (upd H5 TT (.tup [.int (i : Nat), y])) := same_new hT
      obtain ⟨r, hri, hrv⟩ := rowsV_get (rowsP_V r4) hy
      have hrv5 := rowV_same (s45.trans s5) hrv
      obtain ⟨ta, zs, rfl, ht, h0⟩ := rowV_tup hrv5
      have hD5' := s5 _ _ hD5
      have hi2 : i < rs.length := (List.getElem?_eq_some_iff.mp hri).1
      refine ⟨TT, _, rfl, SqT.of upd_same, rfl, _, _, rfl, _, _, rfl, rfl, rfl, row0_is rfl ht h0 (br_kind r) ?_⟩
      have eb := isBr_at hri
      have kp5 : ∀ (o' : HO) c o, c ≠ D2 → H4 c = some o → upd (upd H5 TT (.tup [.int (i : Nat), .ref ta])) D2 o' c = some o := fun o' c o hc e => by
        rw [upd_ne hc]
        exact s5 _ _ (kp c o hc e)
      have stay : isBr rs i = false → (∀ c o, c ≠ D2 → H4 c = some o → (upd H5 TT (.tup [.int (i : Nat), .ref ta])) c = some o) ∧ (upd H5 TT (.tup [.int (i : Nat), .ref ta])) D2 = some (.lst (nats (brsTo rs (i + 1)))) := by
        intro e
        refine ⟨fun c o hc e => s5 _ _ (kp c o hc e), ?_⟩
        rw [brsTo_succ, e]
        simpa using hD5'
      cases r with
      | branch c n m =>
        refine iteT ⟨_, rfl, _, hD5', ?_, kp5 _, ?_⟩
        · rw [nats_len]
          have := brsTo_len rs i
          exact small1000 (by omega)
        · rw [upd_same, brsTo_succ, eb, nats_app]
          rfl
      | words n => exact iteF (stay eb)
      | label n => exact iteF (stay eb)
      | even n => exact iteF (stay eb)
    · rintro H5 ⟨kp, hD5⟩
      rw [lx] at hD5
      have s45 : Same H4 H5 := fun c o e => kp c o (ne_of_none e hD2) e
      refine ⟨D2, _, rfl, .inl ⟨SqL.of hD5, fun q hq => ?_⟩⟩
      have s46 := s45.trans (same_new (o := .tup (nats (brsTo rs rs.length))) hq)
      have x6 := s46 _ _ x4
      have qnx : q ≠ x := ne_of_none' (s45 _ _ x4) hq
      refine ⟨_, rfl, x, C, dx, _, rfl, x6, B.cl, B.n2, (by show 1 < 1000; decide), ?_⟩
      generalize hH7 : upd (upd H5 q (.tup (nats (brsTo rs rs.length)))) x (.ins C dx (putF "forks" (.ref q) [("parts", .ref p)])) = H7
      have k7 : ∀ b o, b ≠ x → H b = some o → H7 b = some o := fun b o hb e => by
        rw [← hH7, upd_ne hb]
        exact s46 _ _ (s4 _ _ (k3 b o hb e))
      have x7 : H7 x = some (.ins C dx [("parts", .ref p), ("forks", .ref q)]) := by rw [← hH7, upd_same]; rfl
      have k7t : KpT K H4 H7 := by
        rw [← hH7]
        exact (KpT.of s46).trans (KpT.put x6 trivial)
      have t7 := k7t.sq
      have q7 : SqT K H7 q (nats (brs rs)) := SqT.of (by rw [← hH7, upd_ne qnx]; exact upd_same)
      have l7 : H7 l = some (.dK (spD rs rs.length)) := by
        rw [← hH7, upd_ne (ne_of (s4 _ _ (by exact x3)) hl (by intro z; cases z)).symm]
        exact s46 _ _ hl
      refine ⟨_, rfl, x, C, dx, _, _, rfl, x7, B.cl, B.n2, rfl, q, rfl, ⟨_, q7⟩, fun D3 hD3 => ?_⟩
      refine dc_it walk_tup (fun i H8 => (∀ c o, c ≠ D3 → H7 c = some o → H8 c = some o) ∧ H8 D3 = some (.dK (mapD (fun k => .int (((aim rs k).getD 0 : Nat) : Int)) (((brs rs).take i).filter fun k => (aim rs k).isSome)))) ⟨fun c o hc e => by rw [upd_ne hc]; exact e, upd_same⟩
        (fun i H8 _ ⟨kp, _⟩ => sqT_same (fun c o e => kp c o (ne_of_none e hD3) e) q7) ?_ ?_
      · rintro i z H8 H8' hi ⟨kp8, hD8⟩ ⟨rfl, hz⟩
        have s78 : Same H7 H8' := fun c o e => kp8 c o (ne_of_none e hD3) e
        obtain ⟨k, hk, rfl⟩ : ∃ k, (brs rs)[i]? = some k ∧ z = V.int ((k : Nat) : Int) := by
          unfold nats at hz
          rw [List.getElem?_map] at hz
          cases e : (brs rs)[i]? with
          | none => rw [e] at hz; cases hz
          | some k => rw [e] at hz; exact ⟨k, rfl, (Option.some.inj hz).symm⟩
        have hkm := List.mem_of_getElem? hk
        obtain ⟨c, n, m, hrk⟩ := brs_mem hkm
        obtain ⟨yk, hyk⟩ : ∃ yk, ys[k]? = some yk := ⟨ys[k]'(by rw [lx]; exact (List.getElem?_eq_some_iff.mp hrk).1), List.getElem?_eq_getElem _⟩
        obtain ⟨r', hr', hrv⟩ := rowsV_get (rowsP_V (rowsP_of k7t r4)) hyk
        obtain rfl : r' = .branch c n m := Option.some.inj (hr'.symm.trans hrk)
        obtain ⟨ta, rfl, ht⟩ := rowV_same s78 hrv
        have x8 := s78 _ _ x7
        have p8 := sqT_same s78 (t7 _ _ p4)
        have l8 := s78 _ _ l7
        have q8 : ∀ {W : V → Hp → Prop}, W (.str n) H8' → tPart2 K ((wipe [some (.ref x), some (.ref L), some (.ref l), none, none] [3]).set 3 (some (.int (k : Int)))) H8' W := fun {W} h => ⟨_, rfl, x, C, dx, _, _, rfl, x8, B.cl, B.n1, rfl, _, rfl, p, ys, _, _, rfl, rfl, p8, at_of hyk, ta, _, _, _, rfl, rfl, ht, at_of (i := 2) rfl, h⟩
        have ea : aim rs k = spot rs n := by
          unfold aim
          rw [toOf_at hrk]
          rfl
        have tk : (brs rs).take (i + 1) = (brs rs).take i ++ [k] := by
          rw [List.take_add_one, hk]
          rfl
        have sv := spot_spV rs n
        rw [← ea] at sv
        refine ⟨rfl, q8 ⟨_, rfl, l, _, rfl, DGet.k (k := Sum.inr n) l8, _, rfl, ?_⟩⟩
        show if (spV rs n).isSome = true then _ else _
        rw [sv]
        cases e : aim rs k with
        | none =>
          refine iteF ⟨kp8, ?_⟩
          rw [tk, List.filter_append]
          have z : [k].filter (fun k => (aim rs k).isSome) = [] := by simp [List.filter, e]
          rw [z, List.append_nil]
          exact hD8
        | some j =>
          rw [e] at sv
          refine iteT ⟨_, rfl, _, rfl, q8 ⟨l, _, rfl, (by
            have g := DGet.k (k := Sum.inr n) l8
            rw [show valV (spD rs rs.length) (Sum.inr n) = some (.int (j : Nat)) from sv] at g
            exact g), _, Sum.inl (k : Int), rfl, hD8, ?_, fun c o hc ec => ?_, ?_⟩⟩
          · rw [mapD_len]
            have h1 : (((brs rs).take i).filter fun k => (aim rs k).isSome).length ≤ ((brs rs).take i).length := List.length_filter_le _ _
            have h2 : ((brs rs).take i).length ≤ (brs rs).length := by rw [List.length_take]; omega
            have h3 := brsTo_len rs rs.length
            have h4 : (brs rs).length = (brsTo rs rs.length).length := rfl
            exact small1000 (by omega)
          · rw [upd_ne hc]
            exact kp8 c o hc ec
          · rw [upd_same, tk, List.filter_append]
            have z : [k].filter (fun k => (aim rs k).isSome) = [k] := by simp [List.filter, e]
            have nw : valV (mapD (fun k => .int (((aim rs k).getD 0 : Nat) : Int)) (((brs rs).take i).filter fun k => (aim rs k).isSome)) (Sum.inl (k : Int)) = none := by
              rw [mapD_val, if_neg]
              intro hm
              exact take_not (brs_nodup rs) hk (List.mem_filter.mp hm).1
            rw [z, putK_new _ nw]
            unfold mapD
            rw [List.map_append, List.map_singleton]
            have z2 : (fun (k : Nat) => V.int (((aim rs k).getD 0 : Nat) : Int)) k = V.int (j : Int) := by
              show V.int (((aim rs k).getD 0 : Nat) : Int) = _
              rw [e]
              rfl
            rw [z2]
      · rintro H8 ⟨kp8, hD8⟩
        rw [nats_len, List.take_length, brs_inn] at hD8
        have hD8 : H8 D3 = some (.dK (aimD rs)) := hD8
        have s78 : Same H7 H8 := fun c o e => kp8 c o (ne_of_none e hD3) e
        have x8 := s78 _ _ x7
        have D3x : D3 ≠ x := (ne_of_none' x7 hD3)
        refine ⟨_, rfl, x, C, dx, _, rfl, x8, B.cl, B.n3, (by show 2 < 1000; decide), ?_⟩
        generalize hH9 : upd H8 x (.ins C dx (putF "aims" (.ref D3) [("parts", .ref p), ("forks", .ref q)])) = H9
        have k9 : ∀ b o, b ≠ x → H7 b = some o → H9 b = some o := fun b o hb e => by
          rw [← hH9, upd_ne hb]
          exact s78 _ _ e
        have x9 : H9 x = some (.ins C dx [("parts", .ref p), ("forks", .ref q), ("aims", .ref D3)]) := by rw [← hH9, upd_same]; rfl
        have d9 : H9 D3 = some (.dK (aimD rs)) := by rw [← hH9, upd_ne D3x]; exact hD8
        have k9t : KpT K H7 H9 := by
          rw [← hH9]
          exact (KpT.of s78).trans (KpT.put x8 trivial)
        have t9 := k9t.sq
        refine ⟨_, rfl, x, C, dx, _, _, rfl, x9, B.cl, B.n2, rfl, q, rfl, ⟨_, t9 _ _ q7⟩, fun D4 hD4 => ?_⟩
        refine lc_it walk_tup (fun i Ha => (∀ c o, c ≠ D4 → H9 c = some o → Ha c = some o) ∧ Ha D4 = some (.lst (nats (((brs rs).take i).filter fun k => (aim rs k).isNone)))) ⟨fun c o hc e => by rw [upd_ne hc]; exact e, upd_same⟩
          (fun i Ha _ ⟨kp, _⟩ => sqT_same (fun c o e => kp c o (ne_of_none e hD4) e) (t9 _ _ q7)) ?_ ?_
        · rintro i z Ha Ha' hi ⟨kpa, hDa⟩ ⟨rfl, hz⟩
          have s9a : Same H9 Ha' := fun c o e => kpa c o (ne_of_none e hD4) e
          obtain ⟨k, hk, rfl⟩ : ∃ k, (brs rs)[i]? = some k ∧ z = V.int ((k : Nat) : Int) := by
            unfold nats at hz
            rw [List.getElem?_map] at hz
            cases e : (brs rs)[i]? with
            | none => rw [e] at hz; cases hz
            | some k => rw [e] at hz; exact ⟨k, rfl, (Option.some.inj hz).symm⟩
          have tk : (brs rs).take (i + 1) = (brs rs).take i ++ [k] := by
            rw [List.take_add_one, hk]
            rfl
          obtain ⟨c, n, m, hrk⟩ := brs_mem (List.mem_of_getElem? hk)
          have hlt : k < rs.length := (List.getElem?_eq_some_iff.mp hrk).1
          refine ⟨rfl, _, rfl, _, rfl, x, C, dx, _, _, rfl, s9a _ _ x9, B.cl, B.n3, rfl, D3, _, rfl, DGet.k (k := Sum.inl (k : Int)) (s9a _ _ d9), _, rfl, ?_⟩
          have ev : (valV (aimD rs) (Sum.inl (k : Int))).isSome = (aim rs k).isSome := by
            unfold aimD
            rw [mapD_val]
            cases e : aim rs k with
            | none =>
              rw [if_neg]
              · rfl
              · intro hm
                have := (mem_inn.mp hm).2
                rw [e] at this
                cases this
            | some j =>
              rw [if_pos (mem_inn.mpr ⟨hlt, by rw [e]; rfl⟩)]
              rfl
          rw [ev]
          cases e : aim rs k with
          | none =>
            refine iteT ⟨_, rfl, _, hDa, ?_, fun c o hc ec => ?_, ?_⟩
            · rw [nats_len]
              have h1 : (((brs rs).take i).filter fun k => (aim rs k).isNone).length ≤ ((brs rs).take i).length := List.length_filter_le _ _
              have h2 : ((brs rs).take i).length ≤ (brs rs).length := by rw [List.length_take]; omega
              have h3 := brsTo_len rs rs.length
              have h4 : (brs rs).length = (brsTo rs rs.length).length := rfl
              exact small1000 (by omega)
            · rw [upd_ne hc]
              exact kpa c o hc ec
            · rw [upd_same, tk, List.filter_append, nats_app]
              have z : [k].filter (fun k => (aim rs k).isNone) = [k] := by simp [List.filter, e]
              rw [z]
              rfl
          | some j =>
            refine iteF ⟨kpa, ?_⟩
            rw [tk, List.filter_append]
            have z : [k].filter (fun k => (aim rs k).isNone) = [] := by simp [List.filter, e]
            rw [z, List.append_nil]
            exact hDa
        · rintro Ha ⟨kpa, hDa⟩
          rw [nats_len, List.take_length] at hDa
          have s9a : Same H9 Ha := fun c o e => kpa c o (ne_of_none e hD4) e
          refine ⟨D4, _, rfl, .inl ⟨SqL.of hDa, fun o ho => ?_⟩⟩
          have s9b := s9a.trans (same_new (o := .tup (nats (outs rs))) ho)
          have xb := s9b _ _ x9
          have onx : o ≠ x := ne_of_none' (s9a _ _ x9) ho
          refine ⟨_, rfl, x, C, dx, _, rfl, xb, B.cl, B.n4, (by show 3 < 1000; decide), ?_⟩
          refine qq _ (fun b u hb e => ?_) ⟨ok, dx, p, q, D3, o, ys, ⟨upd_same, ?_, ?_, ?_, ?_, ?_⟩⟩
          · rw [upd_ne hb]
            exact s9b _ _ (k9 b u hb (k7 b u hb e))
          · exact sqT_put (sqT_same s9b (t9 _ _ (t7 _ _ p4))) xb trivial
          · exact rowsP_of (((k7t.trans k9t).trans (KpT.of s9b)).trans (KpT.put xb trivial)) r4
          · exact sqT_put (sqT_same s9b (t9 _ _ q7)) xb trivial
          · rw [upd_ne D3x]
            exact s9b _ _ d9
          · exact SqT.of (by rw [upd_ne onx]; exact upd_same)
end

/-- a method of the class at C that keeps its promise -/
structure HasM (P : Program) (w : World) (K : PySem.W.Frag) (mg : Str → Option Value) (base : Heap) (CX : CXT) (k : Nat) (C : Addr) (m : Str) (ps : List Str) (sp : Sp) : Prop where
  ex : ∃ (f : Addr) (fd : FuncData), Meth K C m f ∧ Binds K fd ps [] ∧ FnOk P w K mg base CX k f fd ps sp
  cl : Cls K C
theorem HasM.mono {P : Program} {w : World} {K : PySem.W.Frag} {mg : Str → Option Value} {base : Heap} {CX : CXT} {j k : Nat} {C : Addr} {m : Str} {ps : List Str} {sp : Sp} (h : HasM P w K mg base CX j C m ps sp) (l : j ≤ k) : HasM P w K mg base CX k C m ps sp := by
  obtain ⟨⟨f, fd, a, b, c⟩, d⟩ := h
  exact ⟨⟨f, fd, a, b, c.mono l⟩, d⟩
section
variable {X : Cx} {CX : CXT} {k : Nat} {C : Addr} {ps : List Str} {sp : Sp} {E : XK} {m : Str} {p pos apos : Pos} {e o : Expr} {es : List Expr} {t : TA} {ta : TE}
theorem pe_methH {pl : Sem Bool} (M : HasM X.prog X.w X.K X.mg X.base CX k C m ps sp) (he : PE X o ta) (hr : Room k X.A) (hx : Passes CX X E) (ha : PA X (e :: es) t)
    (hst : starEach (e :: es) X.env = (false, eval e X.env) :: starEach es X.env := by rfl) (hpl : (backTo pos (starEach es X.env)).any (·.1) = false := by rfl)
    (ht : eval (.Call (.Attribute o m apos) (e :: es) [] pos) X.env = (do
      let ov ← eval o X.env
      standAt apos.atName
      let (f, first) ← holding [ov] (getMethod ov m pl)
      callWith pos f first (backTo pos (starEach (e :: es) X.env)) (backToKw pos (keywordEach [] X.env))) := by rfl) : PE X (.Call (.Attribute o m apos) (e :: es) [] pos) (tMeth C m sp [] E ta t) := by
  obtain ⟨⟨f, fd, a, b, c⟩, d⟩ := M
  exact pe_meth he d a c hr b .nil hx ha hst hpl ht
theorem pe_methH0 {pl : Sem Bool} (M : HasM X.prog X.w X.K X.mg X.base CX k C m ps sp) (he : PE X o ta) (hr : Room k X.A) (hx : Passes CX X E)
    (ht : eval (.Call (.Attribute o m apos) [] [] pos) X.env = (do
      let ov ← eval o X.env
      standAt apos.atName
      let (f, first) ← holding [ov] (getMethod ov m pl)
      callWith pos f first (backTo pos (starEach [] X.env)) (backToKw pos (keywordEach [] X.env))) := by rfl) : PE X (.Call (.Attribute o m apos) [] [] pos) (tMeth C m sp [] E ta tNil) := by
  obtain ⟨⟨f, fd, a, b, c⟩, d⟩ := M
  exact pe_meth0 he d a c hr b .nil hx ht
end
abbrev mth (j : Nat) : Stmt := inClass (topS 51) j
abbrev sChosen : Stmt := mth 5
theorem scChosen : FnScope ["self", "thing", "choice", "index"] ["self", "thing"] (defScope sChosen) := ⟨rfl, rfl, rfl, by decide +kernel, rfl, by decide +kernel, by decide +kernel⟩
/-- a thing that is a branch of the rows -/
def brB (rs : List Row) : PyData → Bool
  | .int n => decide (n ∈ (brs rs).map fun (k : Nat) => (k : Int))
  | _ => false
/-- what BadChoice(v) comes to -/
def ThE (f : Str) (CE : Addr) (v : V) (H : Hp) (E : XK) : Prop := ∀ H' dx, Same H H' → H' dx = none → E (.ref CE) (some dx) (upd H' dx (.xd [(f, v)]))
/-- a right choice -/
structure ChOk (rs : List Row) (ns : List Int) : Prop where
  br : ∀ n ∈ ns, n ∈ (brs rs).map fun (k : Nat) => (k : Int)
  asc : ns.Pairwise (· < ·)
  out : ∀ k ∈ outs rs, ((k : Nat) : Int) ∈ ns
  len : ns.length ≤ 900
def spChosen (K : PySem.W.Frag) (C CE : Addr) : Sp := fun vs H Q E => ∃ (x : Addr) (v : V) (d : PyData) (rs : List Row), vs = [.ref x, v] ∧ DraftV K H C x rs ∧ Th K H v d ∧
  ((∃ ds, items d = some ds ∧ ∃ ns, ds = ns.map .int ∧ ChOk rs ns ∧ ∀ H' p, Same H H' → SqT K H' p (ns.map V.int) → Q (.ref p) H') ∨ ((items d = none ∨ ∃ ds, items d = some ds ∧ ds.length ≤ 900 ∧ ds.all (brB rs) = false) ∧ ThE "thing" CE v H E))
theorem asc_true {ns : List Int} (h : ns.Pairwise (· < ·)) : ascB ns = true := by
  unfold ascB ascN
  rw [List.all_eq_true]
  intro b hb
  obtain ⟨⟨x, y⟩, hxy, rfl⟩ := List.mem_map.mp hb
  obtain ⟨i, hi, e⟩ := List.mem_iff_getElem.mp (List.mem_of_mem_take hxy)
  have l1 : i < ns.length := by
    rw [List.length_zip] at hi
    omega
  have l2 : i + 1 < ns.length := by
    rw [List.length_zip, List.length_drop] at hi
    omega
  rw [List.getElem_zip, List.getElem_drop] at e
  have e1 := congrArg Prod.fst e
  have e2 := congrArg Prod.snd e
  dsimp only at e1 e2
  have := List.pairwise_iff_getElem.mp h i (1 + i) l1 (by omega) (by omega)
  show (decide (x < y)) = true
  rw [← e1, ← e2]
  exact decide_eq_true this
theorem sort_asc {ns ns' : List Int} (h : ns.Pairwise (· < ·)) (p : ns'.Perm ns) (o : ns'.Pairwise (· ≤ ·)) : ns' = ns :=
  p.eq_of_pairwise (fun a b _ _ h1 h2 => Int.le_antisymm h1 h2) o (h.imp fun z => Int.le_of_lt z)
theorem natsV (ks : List Nat) : nats ks = (ks.map fun (k : Nat) => (k : Int)).map V.int := nats_int ks
theorem dp_int {K : PySem.W.Frag} {H : Hp} {v : V} {i : Int} (h : Dp K H v (.int i)) : v = .int i := by cases h; rfl
theorem dps_int_eq {K : PySem.W.Frag} {H : Hp} : ∀ {xs : List V} {ns : List Int}, DpAll K H xs (ns.map .int) → xs = ns.map V.int
  | _, [], h => by cases h; rfl
  | _, n :: ns, h => by
    cases h with
    | cons h1 h2 => rw [dp_int h1, dps_int_eq h2, List.map_cons]
section
variable {P : Program} {w : World} {K : PySem.W.Frag} {mg : Str → Option Value} {base : Heap}
theorem ok_chosen {f C CE : Addr} {fd : FuncData} (F : Fun K "chosen" "Draft.chosen" sChosen f fd) (T : Bi mg) (B : DrC K C) (S : Err P w K mg base "BadChoice" CE "thing") (G1 : Has P w K mg base CX0 2 "is_row" ["thing"] (spIsRow K)) (G2 : Has P w K mg base CX0 2 "is_integer" ["thing"] (spIsInt K)) (G3 : Has P w K mg base CX0 2 "is_ascending" ["row"] (spAsc K)) :
    FnOk P w K mg base (L2.CX P w) 3 f fd ["self", "thing"] (spChosen K C CE) := by
  refine F.okX scChosen (fun vs H Q E h => ?_) (fun cdv A outer s H vs Q E hr h => ?_)
  · obtain ⟨x, v, d, rs, rfl, _⟩ := h
    rfl
  · obtain ⟨x, v, d, rs, rfl, ⟨ok, dx, p, fq, dd, o, ys, hx⟩, th, want⟩ := h
    refine ⟨_, (pss_cons (ps_if (PW.pt (pw_or (pt_not (pt_val (pe_callH G1 hr (by rfl) pass0 (pa_cons (pv 1) pa_nil)))) (pw_or1 (pt_not (pt_val (pe_callB (cr_all rfl) (by rfl) T.all (by decide +kernel) (pa_cons (pe_lc (own := [("index", 3)]) (g := gName 3) (tt := tYes) rfl scChosen.nd (pi_seq (pv 1)) (blkOk_by (N := ["self", "thing", "choice", "index"]) (sc := defScope sChosen) (by decide +kernel)) (fun _ _ _ _ _ => pg_name (i := 3) scChosen.nd rfl (.inl rfl)) (fun _ _ _ _ _ => pts_nil)
          (te := tAndV (tCall (spIsInt K) [] E00 (tCons (tVar 3) tNil)) (tOp (rIn K false) (tVar 3) (tFld K (tVar 0) "forks"))) (fun _ _ _ _ _ => pe_and (pe_callH G2 hr (by rfl) pass0 (pa_cons (pv 3) pa_nil)) (pe_one (pe_cmpR op_in_seq (pv 3) (pe_fld (pv 0) rfl) (by rfl))))) pa_nil))))))) (pss_one (ps_err rfl (takes_of rfl rfl rfl rfl) S hr (by decide) (pv 1))) pss_nil)
      (pss_cons (ps_set (i := 2) scChosen.nd rfl (.inr rfl) (pe_callTy call_tuple_of (by rfl) T.tuple (by decide +kernel) (pa_cons (pe_callB cr_sortedI (by rfl) T.sorted (by decide +kernel) (pa_cons (pe_callTy call_list_of (by rfl) T.list (by decide +kernel) (pa_cons (pv 1) pa_nil)) pa_nil)) pa_nil)))
      (pss_cons (ps_if (PW.pt (pw_or (pt_not (pt_val (pe_callH G3 hr (by rfl) pass0 (pa_cons (pv 2) pa_nil)))) (pw_or1 (pt_not (pt_val (pe_callB (cr_all rfl) (by rfl) T.all (by decide +kernel) (pa_cons (pe_lc (own := [("index", 3)]) (g := gName 3) (tt := tYes) rfl scChosen.nd (pi_tup (pe_fld (pv 0) rfl)) (blkOk_by (N := ["self", "thing", "choice", "index"]) (sc := defScope sChosen) (by decide +kernel)) (fun _ _ _ _ _ => pg_name (i := 3) scChosen.nd rfl (.inl rfl)) (fun _ _ _ _ _ => pts_nil)
          (te := tOp (rIn K false) (tVar 3) (tVar 2)) (fun _ _ _ _ _ => (pe_cmpR op_in_seq (pv 3) (pv 2) (by rfl)))) pa_nil))))))) (pss_one (ps_err rfl (takes_of rfl rfl rfl rfl) S hr (by decide) (pv 1))) pss_nil)
      (pss_one (ps_ret (pv 2)))))), ?_⟩
    refine ⟨_, rfl, v, d, rfl, th, fun H1 s1 => ⟨_, rfl, ?_⟩⟩
    rw [isR_items]
    cases ei : items d with
    | none =>
      refine iteT ⟨_, rfl, err_go fun dx' hdx => ?_⟩
      rcases want with ⟨ds, e, _⟩ | ⟨_, hE⟩
      · rw [ei] at e
        cases e
      · exact hE H1 dx' s1 hdx
    | some ds =>
      refine iteF ?_
      obtain ⟨a, xs, rfl, hs, ha⟩ := th_row (th_same s1 th) ei
      have hx1 := hx.same s1
      have ldx : xs.length = ds.length := dps_len ha
      have few : ds.length ≤ 900 := by
        rcases want with ⟨ds', e, ns, rfl, g, _⟩ | ⟨h | ⟨ds', e, h, _⟩, _⟩
        · rw [ei] at e
          rw [Option.some.inj e, List.length_map]
          exact g.len
        · rw [ei] at h
          cases h
        · rw [ei] at e
          rw [Option.some.inj e]
          exact h
      refine ⟨_, rfl, a, xs, rfl, hs, fun J G wk st D hD => ?_⟩
      refine lc_it wk (fun i H4 => (∀ c o, c ≠ D → H1 c = some o → H4 c = some o) ∧ H4 D = some (.lst (((ds.take i).map (brB rs)).map V.bl))) ⟨fun c o hc e => by rw [upd_ne hc]; exact e, upd_same⟩
        (fun i H4 _ ⟨kp, _⟩ => st H4 (sqL_same (fun c o e => kp c o (ne_of_none e hD) e)) (sqT_same (fun c o e => kp c o (ne_of_none e hD) e))) ?_ ?_
      · rintro i y H4 H4' hi ⟨kp, hD4⟩ ⟨rfl, hy⟩
        obtain ⟨dy, hdy, hyd⟩ := dps_get ha hy
        have s14 : Same H1 H4' := fun c o e => kp c o (ne_of_none e hD) e
        have hi2 : i < ds.length := (List.getElem?_eq_some_iff.mp hdy).1
        have hx4 := hx1.same s14
        refine ⟨rfl, yes_go (iteT ?_)⟩
        have fin : ∀ b : Bool, brB rs dy = b → ∃ zs, H4' D = some (.lst zs) ∧ zs.length < sizeLine ∧ ((∀ c o, c ≠ D → H1 c = some o → upd H4' D (.lst (zs ++ [V.bl b])) c = some o) ∧ upd H4' D (.lst (zs ++ [V.bl b])) D = some (.lst (((ds.take (i + 1)).map (brB rs)).map V.bl))) := by
          intro b eb
          refine ⟨_, hD4, ?_, fun c o hc e => ?_, ?_⟩
          · rw [List.length_map, List.length_map, List.length_take]
            exact small1000 (by omega)
          · rw [upd_ne hc]
            exact kp c o hc e
          · rw [upd_same, List.take_add_one, hdy]
            simp [eb]
        refine ⟨_, rfl, y, dy, rfl, .dat (dp_same s14 hyd), _, rfl, ?_⟩
        cases dy with
        | int n =>
          obtain rfl := dp_int hyd
          refine iteT ⟨_, rfl, _, rfl, x, C, dx, _, _, rfl, hx4.ins, B.cl, B.n2, rfl, fq, _, rfl, .inr hx4.forks, rfl, ?_, ?_⟩
          · rw [natsV]
            exact flat_ints _
          · refine fin _ ?_
            rw [natsV, inV_ints]
            rfl
        | none => exact iteF (fin false rfl)
        | bool b => exact iteF (fin false rfl)
        | str s => exact iteF (fin false rfl)
        | list l => exact iteF (fin false rfl)
        | tuple l => exact iteF (fin false rfl)
        | dict l => exact iteF (fin false rfl)
      · rintro H4 ⟨kp, hD4⟩
        rw [ldx, List.take_length] at hD4
        have s14 : Same H1 H4 := fun c o e => kp c o (ne_of_none e hD) e
        have s4 := s1.trans s14
        refine ⟨D, _, rfl, SqL.of hD4, _, rfl, ?_⟩
        have eall : ((ds.map (brB rs)).all id) = ds.all (brB rs) := by rw [List.all_map]; rfl
        rw [eall]
        rcases want with ⟨ds', e, ns, rfl, g, qq⟩ | ⟨h | ⟨ds', e, _, h⟩, hE⟩
        · rw [ei] at e
          have e := Option.some.inj e
          subst e
          have all1 : (ns.map PyData.int).all (brB rs) = true := by
            rw [List.all_map, List.all_eq_true]
            intro n hn
            exact decide_eq_true (g.br n hn)
          rw [all1]
          refine iteF ?_
          have hns : ∀ {H9 : Hp}, DpAll K H9 xs (ns.map .int) → xs = ns.map V.int := dps_int_eq
          obtain rfl := hns ha
          have hs4 : SqE K H4 a (ns.map V.int) := sqE_same s14 hs
          refine ⟨_, rfl, a, _, rfl, hs4, fun l hl => ?_⟩
          have sl := same_new (o := .lst (ns.map V.int)) hl
          refine ⟨l, ns, rfl, SqL.of upd_same, fun ns' m pm so hm => ?_⟩
          obtain rfl := sort_asc g.asc pm so
          have sm := same_new (o := .lst (ns'.map V.int)) hm
          refine ⟨m, _, rfl, .inl ⟨SqL.of upd_same, fun t ht => ?_⟩⟩
          have st5 := same_new (o := .tup (ns'.map V.int)) ht
          have s5 := ((s4.trans sl).trans sm).trans st5
          have et : upd (upd (upd H4 l (.lst (ns'.map V.int))) m (.lst (ns'.map V.int))) t (.tup (ns'.map V.int)) t = some (.tup (ns'.map V.int)) := upd_same
          generalize upd (upd (upd H4 l (.lst (ns'.map V.int))) m (.lst (ns'.map V.int))) t (.tup (ns'.map V.int)) = H5 at s5 et ⊢
          refine ⟨_, rfl, t, ns', rfl, .inr (SqT.of et), g.len, fun H6 s6 => ⟨_, rfl, ?_⟩⟩
          rw [asc_true g.asc]
          refine iteF ?_
          have hx6 := hx.same (s5.trans s6)
          have et6 := s6 _ _ et
          refine ⟨_, rfl, x, C, dx, _, _, rfl, hx6.ins, B.cl, B.n4, rfl, o, rfl, ⟨_, hx6.outs⟩, fun D2 hD2 => ?_⟩
          refine lc_it walk_tup (fun i H7 => (∀ c o, c ≠ D2 → H6 c = some o → H7 c = some o) ∧ H7 D2 = some (.lst ((List.replicate i true).map V.bl))) ⟨fun c o hc e => by rw [upd_ne hc]; exact e, upd_same⟩
            (fun i H7 _ ⟨kp, _⟩ => sqT_same (fun c o e => kp c o (ne_of_none e hD2) e) hx6.outs) ?_ ?_
          · rintro i y H7 H7' hi ⟨kp7, hD7⟩ ⟨rfl, hy⟩
            have s67 : Same H6 H7' := fun c o e => kp7 c o (ne_of_none e hD2) e
            obtain ⟨k, hk, rfl⟩ : ∃ k, (outs rs)[i]? = some k ∧ y = V.int ((k : Nat) : Int) := by
              unfold nats at hy
              rw [List.getElem?_map] at hy
              obtain ⟨k, hk, e⟩ := Option.map_eq_some_iff.mp hy
              exact ⟨k, hk, e.symm⟩
            have hin := g.out k (List.mem_of_getElem? hk)
            have hi3 : i < (outs rs).length := (List.getElem?_eq_some_iff.mp hk).1
            have ho9 : (outs rs).length ≤ 900 := by
              have h1 : (outs rs).length ≤ (brs rs).length := List.length_filter_le _ _
              have h2 := brsTo_len rs rs.length
              have h4 : (brs rs).length = (brsTo rs rs.length).length := rfl
              have := ok.len
              omega
            refine ⟨rfl, yes_go (iteT ⟨_, rfl, _, rfl, t, _, rfl, .inr (SqT.of (s67 _ _ et6)), rfl, flat_ints _, _, hD7, ?_, fun c o hc e => ?_, ?_⟩)⟩
            · rw [List.length_map, List.length_replicate]
              exact small1000 (by omega)
            · rw [upd_ne hc]
              exact kp7 c o hc e
            · rw [upd_same, inV_ints, decide_eq_true hin, List.replicate_succ']
              simp
          · rintro H7 ⟨kp7, hD7⟩
            have s67 : Same H6 H7 := fun c o e => kp7 c o (ne_of_none e hD2) e
            refine ⟨D2, _, rfl, SqL.of hD7, _, rfl, ?_⟩
            have er : ∀ n : Nat, (List.replicate n true).all id = true := fun n => by simp
            rw [er]
            exact iteF ⟨_, rfl, qq H7 t ((s5.trans s6).trans s67) (SqT.of (s67 _ _ et6))⟩
        · rw [ei] at h
          cases h
        · rw [ei] at e
          have e := Option.some.inj e
          subst e
          rw [h]
          exact iteT ⟨_, rfl, err_go fun dx' hdx => hE H4 dx' s4 hdx⟩
end

/-! ### what a new dict holds, locked for a walk -/
def tFrz (te : TE) : TE := fun σ H Q => te σ H fun x H1 => ∃ d u, x = .ref d ∧ H1 d = some u ∧ Mut (some u) ∧ ∀ od, Q x (upd H1 d (.frz od u))
theorem pe_frz {X : Cx} {e : Expr} {te : TE} (h : PE X e te) : PE X e (tFrz te) := by
  refine ⟨fun pn s σ H Q I w => thn (h.run pn s σ H _ I w) fun v s1 got => ?_⟩
  obtain ⟨x, H1, I1, r, d, u, rfl, hd, mu, q⟩ := got
  obtain ⟨od, I2⟩ := I1.lock hd mu
  exact ⟨_, _, I2, r, q od⟩
/-- an item of a written dict -/
def tKd (K : PySem.W.Frag) (d : Addr) (te ti : TE) : TE := fun σ H Q => te σ H fun x H1 => ti σ H1 fun y H2 => ∃ (z : Str) (u : Value) (v : V), x = .ref d ∧ y = .str z ∧ PySem.W.nsIn K d z = some (some u) ∧ L2.RelV v u ∧ Q v H2
theorem pe_kdget {X : Cx} {e i : Expr} {te ti : TE} {d : Addr} {es : Array DictEntry} {n : Nat} {pos : Pos} (D : KDict X.K X.w d es n) (he : PE X e te) (hi : PE X i ti) (hs : NoSl i) : PE X (.Subscript e i pos) (tKd X.K d te ti) := by
  refine ⟨fun pn s σ H Q I w => subD_of (T := "dict") slot_dict_getitem.lookup hs (thn (he.run pn s σ H _ I w) fun v s1 g1 => ?_)⟩
  obtain ⟨x, H1, I1, r1, q1⟩ := g1
  refine thn (hi.run pn s1 σ H1 _ I1 q1) fun u s2 g2 => ?_
  obtain ⟨y, H2, I2, r2, z, u0, v0, rfl, rfl, hz, rv, q⟩ := g2
  cases r1
  exact ⟨kd_type D I2, (op_item_kd D) pn s2 σ H2 (.ref d) (.str z) _ _ Q I2 rfl r2 ⟨z, u0, v0, rfl, rfl, hz, rv, q⟩⟩
/-! ### the addresses of labels -/
def adr (f : Int → Bool) (rs : List Row) (z : Str) : Option Int := (spot rs z).map fun j => off f rs j
theorem putK_in {κ : Type} [DecidableEq κ] {kvs : List (κ × V)} {k : κ} (v : V) (h : k ∈ kvs.map (·.1)) : (putK kvs k v).map (·.1) = kvs.map (·.1) := by
  unfold putK
  have e : (kvs.any fun kv => decide (kv.1 = k)) = true := by
    obtain ⟨p, hp, e⟩ := List.mem_map.mp h
    exact List.any_eq_true.mpr ⟨p, hp, decide_eq_true e⟩
  rw [if_pos e, List.map_map]
  apply List.map_congr_left
  intro p _
  show (if p.1 = k then (p.1, v) else p).1 = p.1
  split <;> rfl
theorem putK_out {κ : Type} [DecidableEq κ] {kvs : List (κ × V)} {k : κ} (v : V) (h : k ∉ kvs.map (·.1)) : putK kvs k v = kvs ++ [(k, v)] := by
  unfold putK
  rw [if_neg]
  intro z
  obtain ⟨p, hp, e⟩ := List.any_eq_true.mp z
  exact h (List.mem_map.mpr ⟨p, hp, of_decide_eq_true e⟩)
theorem spD_nod (rs : List Row) : ∀ i, ((spD rs i).map (·.1)).Nodup
  | 0 => List.nodup_nil
  | i + 1 => by
    have ih := spD_nod rs i
    unfold spD
    cases labOf rs i with
    | none => exact ih
    | some s =>
      dsimp only
      cases Classical.em ((Sum.inr s : Key) ∈ (spD rs i).map (·.1)) with
      | inl z =>
        rw [putK_in _ z]
        exact ih
      | inr z =>
        rw [putK_out _ z, List.map_append]
        refine List.nodup_append.mpr ⟨ih, (by simp), fun a ha b hb e => ?_⟩
        have hb' : b = Sum.inr s := by simpa using hb
        exact z (hb' ▸ e ▸ ha)
theorem spD_key (rs : List Row) : ∀ i, ∀ q ∈ spD rs i, ∃ n, q.1 = Sum.inr n
  | 0, q, h => by cases h
  | i + 1, q, h => by
    unfold spD at h
    cases e : labOf rs i with
    | none =>
      rw [e] at h
      exact spD_key rs i q h
    | some s =>
      rw [e] at h
      dsimp only at h
      cases Classical.em ((Sum.inr s : Key) ∈ (spD rs i).map (·.1)) with
      | inl z =>
        have h2 : q.1 ∈ (putK (spD rs i) (Sum.inr s) (.int (i : Nat))).map (·.1) := List.mem_map.mpr ⟨q, h, rfl⟩
        rw [putK_in _ z] at h2
        obtain ⟨q', h3, h4⟩ := List.mem_map.mp h2
        obtain ⟨n, hn⟩ := spD_key rs i q' h3
        exact ⟨n, h4.symm.trans hn⟩
      | inr z =>
        rw [putK_out _ z] at h
        rcases List.mem_append.mp h with h | h
        · exact spD_key rs i q h
        · exact ⟨s, by rw [List.mem_singleton.mp h]⟩
theorem valV_nod {κ : Type} [DecidableEq κ] : ∀ {kvs : List (κ × V)} {k : κ} {v : V}, (kvs.map (·.1)).Nodup → (k, v) ∈ kvs → valV kvs k = some v
  | [], _, _, _, h => by cases h
  | p :: kvs, k, v, nd, h => by
    have nd' := List.nodup_cons.mp (show (p.1 :: kvs.map (·.1)).Nodup from nd)
    rcases List.mem_cons.mp h with e | h
    · subst e
      exact valV_pos rfl
    · have ne : p.1 ≠ k := fun e => nd'.1 (e ▸ List.mem_map.mpr ⟨_, h, rfl⟩)
      have e : valV (p :: kvs) k = valV kvs k := valV_neg ne
      rw [e]
      exact valV_nod nd'.2 h
theorem valV_out {κ : Type} [DecidableEq κ] : ∀ {kvs : List (κ × V)} {k : κ}, k ∉ kvs.map (·.1) → valV kvs k = none
  | [], _, _ => rfl
  | p :: kvs, k, h => by
    rw [List.map_cons, List.mem_cons, not_or] at h
    have e : valV (p :: kvs) k = valV kvs k := valV_neg fun e => h.1 e.symm
    rw [e]
    exact valV_out h.2
theorem spD_at {rs : List Row} {i : Nat} {k : Key} {v : V} (h : (spD rs rs.length)[i]? = some (k, v)) : ∃ n j, k = Sum.inr n ∧ v = .int ((j : Nat) : Int) ∧ spot rs n = some j ∧ j < rs.length := by
  have hm := List.mem_of_getElem? h
  obtain ⟨n, e⟩ := spD_key rs _ _ hm
  have e : k = Sum.inr n := e
  subst e
  have hv : spV rs n = some v := valV_nod (spD_nod rs _) hm
  obtain ⟨j, h1, h2, h3, _⟩ := spV_some hv
  exact ⟨n, j, rfl, h2, h1, h3⟩
theorem spot_out {rs : List Row} {z : Str} (h : (Sum.inr z : Key) ∉ (spD rs rs.length).map (·.1)) : spot rs z = none := spV_none (valV_out h)
theorem none_of_f {H H' : Hp} {p : Addr} (e : Same H H') (hp : H' p = none) : H p = none := by
  cases z : H p with
  | none => rfl
  | some o => rw [e _ _ z] at hp; cases hp
def spMeanings (K : PySem.W.Frag) : Sp := fun vs H Q _ => ∃ (t l : Addr) (xs : List V) (rs : List Row) (f : Int → Bool) (p : Str), vs = [.ref t, .ref l, .str p] ∧ SqT K H t xs ∧ RowsV K H xs rs ∧ rs.length ≤ 900 ∧ SqL K H l (offTo f rs rs.length) ∧
  ∀ H' d kvs, Same H H' → H d = none → H' d = some (.dT kvs) → WorthsV H' kvs (adr f rs) p → Q (.ref d) H'
abbrev sMeanings : Stmt := topS 46
abbrev NMe : List Str := ["rows", "offsets", "p", "n", "index"]
theorem scMeanings : FnScope NMe ["rows", "offsets", "p"] (defScope sMeanings) := ⟨rfl, rfl, rfl, by decide +kernel, rfl, by decide +kernel, by decide +kernel⟩
section
variable {P : Program} {w : World} {K : PySem.W.Frag} {mg : Str → Option Value} {base : Heap}
theorem ok_meanings {f : Addr} {fd : FuncData} (F : Fun K "meanings_of" "meanings_of" sMeanings f fd) (G1 : Has P w K mg base CX0 2 "labels_in" ["rows"] (spLabelsIn K)) (G2 : Has P w K mg base CX0 2 "sum_at" ["address"] (spSumAt K)) : FnOk P w K mg base CX0 3 f fd ["rows", "offsets", "p"] (spMeanings K) := by
  refine F.ok scMeanings (fun vs H Q E h => ?_) (fun cdv A outer s H vs Q E hr h => ?_)
  · obtain ⟨t, l, xs, rs, g, p, rfl, _⟩ := h
    rfl
  · obtain ⟨t, l, xs, rs, g, p, rfl, ht, hrs, hlen, hl, q⟩ := h
    have hu := hu_of hr
    refine ⟨_, (pss_one (ps_ret (pe_dt (own := [("n", 3), ("index", 4)]) (g := gTup K 2 (gCons (gName 3) (gCons (gName 4) gNil))) (tt := tYes) (tk := tTup (tCons (tC (.str "name")) (tCons (tVar 3) tNil))) (tv := tCall (spSumAt K) [] E00 (tCons (tTup (tCons (tVar 2) (tCons (tOp (rIxL K) (tVar 1) (tVar 4)) tNil))) tNil)) hu rfl scMeanings.nd (pi_items (pe_frz (pe_callH G1 hr (by rfl) pass0 (pa_cons (pv 0) pa_nil)))) (blkOk_by (N := NMe) (sc := defScope sMeanings) (by decide +kernel))
      (fun _ _ _ _ _ => (pg_tup rfl (pgs_cons (pg_name (i := 3) scMeanings.nd rfl (.inl rfl) (.inr rfl)) (pgs_cons (pg_name (i := 4) scMeanings.nd rfl (.inl rfl) (.inr rfl)) pgs_nil)))) (fun _ _ _ _ _ => pts_nil) (fun _ _ _ _ _ => pe_tup (pa_cons pe_str (pa_cons (pv 3) pa_nil)))
      (fun _ _ _ _ _ => pe_callH G2 hr (by rfl) pass0 (pa_cons (pe_tup (pa_cons (pv 2) (pa_cons (pe_ix ix_list (pv 1) (pv 4) (fun _ _ => rfl)) pa_nil))) pa_nil))))), ?_⟩
    refine ⟨_, rfl, t, xs, rs, rfl, ht, hrs, hlen, fun H1 d s1 hd0 hd => ⟨d, _, rfl, hd, trivial, fun od => ⟨d, od, _, rfl, upd_same, fun D hD => ?_⟩⟩⟩
    have sf : Same H (upd H1 d (.frz od (.dK (spD rs rs.length)))) := fun b o e => by
      rw [upd_ne (ne_of_none e hd0)]
      exact s1 _ _ e
    have hDd : D ≠ d := fun z => by
      rw [z, upd_same] at hD
      cases hD
    have hfd : upd H1 d (.frz od (.dK (spD rs rs.length))) d = some (.frz od (.dK (spD rs rs.length))) := upd_same
    generalize upd H1 d (.frz od (.dK (spD rs rs.length))) = Hf at sf hD hfd ⊢
    refine dt_it walk_items (fun i H4 => (∀ c o, c ≠ D → Hf c = some o → H4 c = some o) ∧ ∃ ks, H4 D = some (.dT ks) ∧ ks.length ≤ i ∧ ∀ u, match valV ks u with
        | some y => ∃ z o, u = nameU z ∧ adr g rs z = some o ∧ SumT H4 y o [(pieceU p, 1)]
        | none => ∀ z, u = nameU z → (Sum.inr z : Key) ∉ ((spD rs rs.length).take i).map (·.1))
      ⟨fun c o hc e => by rw [upd_ne hc]; exact e, [], upd_same, Nat.le_refl _, fun u z _ h => by cases h⟩ (fun i H4 _ ⟨kp, _⟩ => kp _ _ hDd.symm hfd) ?_ ?_
    · rintro i x H4 H4' hi ⟨kp, ks, hD4, kl, inv⟩ ⟨TT, x', y', rfl, hT, rfl, hx', hy'⟩
      obtain ⟨⟨k, v⟩, hkv⟩ : ∃ kv, (spD rs rs.length)[i]? = some kv := ⟨_, List.getElem?_eq_getElem hi⟩
      obtain ⟨n, j, rfl, rfl, hsp, hj⟩ := spD_at hkv
      have hx2 : Option.map (fun kv : Key × V => kV kv.1) (spD rs rs.length)[i]? = some x' := hx'
      have hy2 : Option.map Prod.snd (spD rs rs.length)[i]? = some y' := hy'
      rw [hkv] at hx2 hy2
      cases hx2
      cases hy2
      have sT := same_new (o := .tup [kV (Sum.inr n : Key), V.int ((j : Nat) : Int)]) hT
      have sk : ∀ c o, c ≠ D → Hf c = some o → upd H4 TT (.tup [kV (Sum.inr n : Key), V.int ((j : Nat) : Int)]) c = some o := fun c o hc e => sT _ _ (kp c o hc e)
      have hlk : ∀ c xs', SqL K H c xs' → SqL K (upd H4 TT (.tup [kV (Sum.inr n : Key), V.int ((j : Nat) : Int)])) c xs' := fun c xs' h => sqL_same (fun b o e => sk b o (ne_of_none (sf _ _ e) hD) (sf _ _ e)) h
      refine ⟨TT, _, rfl, SqT.of upd_same, rfl, _, _, rfl, _, _, rfl, rfl, rfl, yes_go (iteT ?_)⟩
      refine ⟨_, rfl, (by show 2 ≤ sizeLine; decide), fun b hb => ?_⟩
      have sb := same_new (o := .tup [V.str "name", V.str n]) hb
      refine ⟨_, rfl, _, rfl, _, rfl, l, _, _, _, rfl, rfl, sqL_same sb (hlk _ _ hl), offTo_at (j := j) (by omega), (by show 2 ≤ sizeLine; decide), fun a ha => ?_⟩
      have sa := same_new (o := .tup [V.str p, V.int (off g rs j)]) ha
      refine ⟨a, p, off g rs j, rfl, SqT.of upd_same, fun y H9 s9 hy => ?_⟩
      have s49 := ((sT.trans sb).trans sa).trans s9
      have hD9 := s49 _ _ hD4
      refine ⟨_, ⟨ks, nameU n, b, hD9, rfl, s9 _ _ (sa _ _ upd_same), small1000 ?_, rfl⟩, fun c o hc e => ?_, _, upd_same, ?_, fun u => ?_⟩
      · have h1 := spD_len rs rs.length
        omega
      · rw [upd_ne hc]
        exact (sb.trans (sa.trans s9)) _ _ (sk c o hc e)
      · exact Nat.le_trans (length_putK ks (nameU n) y) (by omega)
      · have tp : TupS H9 (upd H9 D (.dT (putK ks (nameU n) y))) := TupS.put hD9 (by intro xs z; cases z)
        have tk : ((spD rs rs.length).take (i + 1)).map (·.1) = ((spD rs rs.length).take i).map (·.1) ++ [Sum.inr n] := by
          rw [List.take_add_one, hkv]
          simp
        rw [valV_put]
        by_cases c : u = nameU n
        · rw [if_pos c]
          exact ⟨n, off g rs j, c, by unfold adr; rw [hsp]; rfl, sumT_s tp hy⟩
        · rw [if_neg c]
          have iu := inv u
          revert iu
          cases valV ks u with
          | some y0 => exact fun ⟨z, o, e1, e2, e3⟩ => ⟨z, o, e1, e2, sumT_s ((TupS.of s49).trans tp) e3⟩
          | none =>
            intro h z ez hm
            rw [tk] at hm
            rcases List.mem_append.mp hm with hm | hm
            · exact h z ez hm
            · have : (Sum.inr z : Key) = Sum.inr n := by simpa using hm
              exact c (by rw [ez, Sum.inr.inj this])
    · rintro H4 ⟨kp, ks, hD4, kl, inv⟩
      rw [List.take_length] at inv
      have s4 : Same H H4 := fun b o e => kp b o (ne_of_none (sf _ _ e) hD) (sf _ _ e)
      refine q H4 D ks s4 (none_of_f sf hD) hD4 fun u => ?_
      have iu := inv u
      revert iu
      cases valV ks u with
      | some y0 => exact id
      | none =>
        intro h z ez
        unfold adr
        rw [spot_out (h z ez)]
        rfl
end

/-! ### the words of a row -/
def SumE (H : Hp) (v : V) (s : Int × Mul) : Prop := SumT H v s.1 s.2
theorem sumE_s {H H' : Hp} (e : TupS H H') {v : V} {s : Int × Mul} (h : SumE H v s) : SumE H' v s := sumT_s e h
def wordW (g : Str → Option Int) (p : Str) (w : WordM) : Int × Mul := ((putAll g p (readM w).1 (readM w).2).1, form (putAll g p (readM w).1 (readM w).2).2)
def nearC (c : Str) : Int := if c = "ask" then 3 else if c = "go" then 5 else 14
def farC (c : Str) : Int := nearC c + 1
def rowW (f : Int → Bool) (rs : List Row) (p : Str) (i : Nat) : Row → List (Int × Mul)
  | .words ws => ws.map (wordW (adr f rs) p)
  | .even _ => List.replicate (off f rs (i + 1) - off f rs i).toNat (9, [])
  | .label _ => []
  | .branch c n m => if f (i : Nat) = true then [(farC c, []), (m + subN (adr f rs) (nameU n), [(subU (adr f rs) p (nameU n), 1)])] else [(nearC c + 2048 * ((adr f rs n).getD 0 - off f rs i), [])]
/-- a written dict from the calls to their codes -/
structure CodesD (K : PySem.W.Frag) (w : World) (mg : Str → Option Value) (x : Str) (d : Addr) (f : Str → Int) : Prop where
  g : mg x = some (.ref d)
  kd : ∃ es n, KDict K w d es n
  has : ∀ z ∈ nearL, ∃ t, PySem.W.nsIn K d z = some (some (.int (f z) t))
theorem form_one (u : List Key) : form [(u, 1)] = [(u, 1)] := by
  have e : keysN [(u, 1)] = [u] := by
    unfold keysN
    simp [getI]
  unfold form
  rw [e]
  simp [List.mergeSort, getI]
theorem acc_one (u : List Key) : accAll [(u, 1)] = [(u, 1)] := rfl
theorem putAll_one (g : Str → Option Int) (p : Str) (n : Int) (u : List Key) : putAll g p n [(u, 1)] = (n + subN g u, [(subU g p u, 1)]) := by
  show putIn g p (n, []) (u, 1) = _
  rw [putIn_eq]
  show (n + 1 * subN g u, _) = _
  rw [Int.one_mul]
  rfl
theorem eachs_rep {α β : Type} {R : α → β → Prop} {a : α} {b : β} (h : R a b) : ∀ n : Nat, PySem.W.EachIs R (List.replicate n a) (List.replicate n b)
  | 0 => .nil
  | n + 1 => .cons h (eachs_rep h n)
def spWords (K : PySem.W.Frag) : Sp := fun vs H Q _ => ∃ (v : V) (r : Row) (i : Nat) (l o d : Addr) (ns : List Int) (kvs : List (List Key × V)) (rs : List Row) (p : Str), vs = [v, .int ((i : Nat) : Int), .ref l, .ref o, .ref d] ∧ RowP K H v r ∧ RowFine r ∧ rs[i]? = some r ∧ SqE K H l (ns.map V.int) ∧
  SqL K H o (offTo (mem ns) rs rs.length) ∧ H d = some (.dT kvs) ∧ WorthsV H kvs (adr (mem ns) rs) p ∧ (∀ c n m, r = .branch c n m → n ∈ nmS ∧ (mem ns (i : Nat) = false → ∃ o, adr (mem ns) rs n = some o)) ∧ p ∈ nmS ∧
  ∀ H' q ys, Same H H' → H q = none → H' q = some (.lst ys) → PySem.W.EachIs (SumE H') ys (rowW (mem ns) rs p i r) → ys.length ≤ 1000 → Q (.ref q) H'
abbrev sWords : Stmt := topS 45
abbrev NWo : List Str := ["row", "index", "far", "offsets", "meanings", "_", "called", "n", "more", "name", "way", "word"]
theorem scWords : FnScope NWo ["row", "index", "far", "offsets", "meanings"] (defScope sWords) := ⟨rfl, rfl, rfl, by decide +kernel, rfl, by decide +kernel, by decide +kernel⟩
section
variable {P : Program} {w : World} {K : PySem.W.Frag} {mg : Str → Option Value} {base : Heap}
theorem ok_words {f dn df : Addr} {fd : FuncData} {tF : Tok} (F : Fun K "words_of_row" "words_of_row" sWords f fd) (gF : mg "FILLER" = some (.int 9 tF)) (N : CodesD K w mg "NEAR_CODES" dn nearC) (Fa : CodesD K w mg "FAR_CODES" df farC)
    (G1 : Has P w K mg base CX0 8 "with_worths" ["one", "worths"] (spWith K)) (G2 : Has P w K mg base CX0 8 "plus" ["one", "other"] (spPlus K)) (G3 : HasD P w K mg base CX0 8 "coded" ["code", "x", "y", "d"] [.int 0, .int 0, .int 0] spCoded0) (G4 : Has P w K mg base CX0 8 "coded" ["code", "x", "y", "d"] spCoded0) :
    FnOk P w K mg base CX0 9 f fd ["row", "index", "far", "offsets", "meanings"] (spWords K) := by
  refine F.ok scWords (fun vs H Q E h => ?_) (fun cdv A outer s H vs Q E hr h => ?_)
  · obtain ⟨v, r, i, l, o, d, ns, kvs, rs, p, rfl, _⟩ := h
    rfl
  · obtain ⟨v, r, i, l, o, d, ns, kvs, rs, p, rfl, hv, hf, hri, hl, ho, hd, hw, hb, hp, q⟩ := h
    have hu := hu_of hr
    obtain ⟨es1, n1, kd1⟩ := N.kd
    obtain ⟨es2, n2, kd2⟩ := Fa.kd
    refine ⟨_, (pss_cons (ps_if (pt_cmpR op_eq (pe_ix ix_tup (pv 0) pe_int (fun _ _ => rfl)) pe_str (nomark _)) (pss_one (ps_ret (pe_lc (own := [("word", 11)]) (g := gName 11) (tt := tYes) (te := tCall (spWith K) [] E00 (tCons (tVar 11) (tCons (tVar 4) tNil))) rfl scWords.nd (pi_tup (pe_ix ix_tup (pv 0) pe_int (fun _ _ => rfl))) (blkOk_by (N := NWo) (sc := defScope sWords) (by decide +kernel)) (fun _ _ _ _ _ => pg_name (i := 11) scWords.nd rfl (.inl rfl)) (fun _ _ _ _ _ => pts_nil) (fun _ _ _ _ _ => pe_callH G1 hr (by rfl) pass0 (pa_cons (pv 11) (pa_cons (pv 4) pa_nil)))))) pss_nil)
      (pss_cons (ps_if (pt_cmpR op_eq (pe_ix ix_tup (pv 0) pe_int (fun _ _ => rfl)) pe_str (nomark _)) (pss_one (ps_ret (pe_op op_rep (pe_lst (pa_cons (pe_tup (pa_cons (pe_glob (v := .int 9) rfl gF ⟨_, rfl⟩) (pa_cons (pe_tup pa_nil) pa_nil))) pa_nil)) (pe_op op_sub (pe_ix ix_list (pv 3) (pe_op op_add (pv 1) pe_int) (fun _ _ => rfl)) (pe_ix ix_list (pv 3) (pv 1) (fun _ _ => rfl)))))) pss_nil)
      (pss_cons (ps_if (pt_cmpR op_eq (pe_ix ix_tup (pv 0) pe_int (fun _ _ => rfl)) pe_str (nomark _)) (pss_one (ps_ret (pe_lst pa_nil))) pss_nil)
      (pss_cons (ps_asg (pv 0) (pg_tup rfl (pgs_cons (pg_name (i := 5) scWords.nd rfl (.inl rfl)) (pgs_cons (pg_name (i := 6) scWords.nd rfl (.inl rfl)) (pgs_cons (pg_name (i := 7) scWords.nd rfl (.inl rfl)) (pgs_cons (pg_name (i := 8) scWords.nd rfl (.inl rfl)) pgs_nil))))))
      (pss_cons (ps_set (i := 9) scWords.nd rfl (.inl rfl) (pe_tup (pa_cons pe_int (pa_cons (pe_tup (pa_cons (pe_tup (pa_cons (pe_tup (pa_cons pe_str (pa_cons (pv 7) pa_nil))) (pa_cons pe_int pa_nil))) pa_nil)) pa_nil))))
      (pss_cons (ps_if (pt_cmpR op_in_seq (pv 1) (pv 2) (by rfl)) (pss_one (ps_ret (pe_lst (pa_cons (pe_tup (pa_cons (pe_callD G3 hr (by rfl) pass0 (pa_cons (pe_kdget kd2 (pe_glob (v := .ref df) rfl Fa.g rfl) (pv 6) (fun _ _ => rfl)) pa_nil)) (pa_cons (pe_tup pa_nil) pa_nil))) (pa_cons (pe_callH G2 hr (by rfl) pass0 (pa_cons (pe_callH G1 hr (by rfl) pass0 (pa_cons (pv 9) (pa_cons (pv 4) pa_nil))) (pa_cons (pv 8) pa_nil))) pa_nil))))) pss_nil)
      (pss_cons (ps_set (i := 10) scWords.nd rfl (.inl rfl) (pe_op op_sub (pe_ix ix_tup (pe_dget hu (pv 4) (pe_tup (pa_cons pe_str (pa_cons (pv 7) pa_nil))) (fun _ _ => rfl)) pe_int (fun _ _ => rfl)) (pe_ix ix_list (pv 3) (pv 1) (fun _ _ => rfl))))
      (pss_one (ps_ret (pe_lst (pa_cons (pe_tup (pa_cons (pe_callH G4 hr (by rfl) pass0 (pa_cons (pe_kdget kd1 (pe_glob (v := .ref dn) rfl N.g rfl) (pv 6) (fun _ _ => rfl)) (pa_cons pe_int (pa_cons pe_int (pa_cons (pv 10) pa_nil))))) (pa_cons (pe_tup pa_nil) pa_nil))) pa_nil))))))))))), ?_⟩
    have hi2 : i < rs.length := (List.getElem?_eq_some_iff.mp hri).1
    cases r with
    | words ws =>
      obtain ⟨a, b, xs, rfl, h2, h3, h4⟩ := hv
      obtain ⟨few, okw⟩ := hf
      have lx : xs.length = ws.length := h4.length
      refine ⟨_, rfl, a, _, _, _, rfl, rfl, h2, at_of (i := 0) rfl, rfl, _, rfl, kEq (by decide +kernel) ?_⟩
      refine ⟨_, rfl, a, _, _, _, rfl, rfl, h2, at_of (i := 1) rfl, b, rfl, ⟨_, h3⟩, fun D hD => ?_⟩
      refine lc_it walk_tup (fun j H4 => (∀ c o, c ≠ D → H c = some o → H4 c = some o) ∧ ∃ ys, H4 D = some (.lst ys) ∧ PySem.W.EachIs (SumE H4) ys ((ws.take j).map (wordW (adr (mem ns) rs) p))) ⟨fun c o hc e => by rw [upd_ne hc]; exact e, [], upd_same, .nil⟩
        (fun j H4 _ ⟨kp, _⟩ => sqT_same (fun c o e => kp c o (ne_of_none e hD) e) h3) ?_ ?_
      · rintro j x H4 H4' hj ⟨kp, ys, hD4, hys⟩ ⟨rfl, hx⟩
        obtain ⟨wd, hwd, hxw⟩ := eachs_get h4 hx
        have okd := okw wd (List.mem_of_getElem? hwd)
        have s4 : Same H H4' := fun c o e => kp c o (ne_of_none e hD) e
        have hj2 : j < ws.length := (List.getElem?_eq_some_iff.mp hwd).1
        obtain ⟨m1, m2, m3⟩ := readM_sm okd
        refine ⟨rfl, yes_go (iteT ?_)⟩
        refine ⟨_, rfl, _, rfl, x, _, _, d, kvs, adr (mem ns) rs, p, rfl, sumT_s (TupS.of s4) hxw, s4 _ _ hd, worthsV_s (TupS.of s4) hw, m1, fun u hu' => okU_nm (m2 u hu'), by omega, fun v5 H5 s5 hv5 => ?_⟩
        have hD5 := s5 _ _ hD4
        have yl : ys.length = j := by
          rw [hys.length, List.length_map, List.length_take]
          omega
        refine ⟨ys, hD5, small1000 (by omega), fun c o hc ec => ?_, ys ++ [v5], upd_same, ?_⟩
        · rw [upd_ne hc]
          exact s5 _ _ (kp c o hc ec)
        · have tp : TupS H5 (upd H5 D (.lst (ys ++ [v5]))) := TupS.put hD5 (by intro xs z; cases z)
          rw [List.take_add_one, hwd, List.map_append]
          exact eachs_snoc (sumE_s (s := wordW (adr (mem ns) rs) p wd) tp hv5) (eachs_imp (fun _ _ => sumE_s ((TupS.of s5).trans tp)) hys)
      · rintro H4 ⟨kp, ys, hD4, hys⟩
        rw [lx, List.take_length] at hys
        have s4 : Same H H4 := fun c o e => kp c o (ne_of_none e hD) e
        refine q H4 D ys s4 hD hD4 hys ?_
        rw [hys.length, List.length_map]
        omega
    | even n =>
      obtain ⟨a, rfl, h2⟩ := hv
      have hf1 : 1 ≤ n ∧ n ≤ 64 := hf
      refine ⟨_, rfl, a, _, _, _, rfl, rfl, h2, at_of (i := 0) rfl, rfl, _, rfl, kNe (by decide +kernel) ?_⟩
      refine ⟨_, rfl, a, _, _, _, rfl, rfl, h2, at_of (i := 0) rfl, rfl, _, rfl, kEq (by decide +kernel) ?_⟩
      have es := off_succ (f := mem ns) hri
      have sz0 : 0 ≤ (-(off (mem ns) rs i)) % n := Int.emod_nonneg _ (by omega)
      have sz1 : (-(off (mem ns) rs i)) % n < n := Int.emod_lt_of_pos _ (by omega)
      have ed : off (mem ns) rs (i + 1) - off (mem ns) rs i = (-(off (mem ns) rs i)) % n := by
        rw [es]
        show off (mem ns) rs i + (-(off (mem ns) rs i)) % n - off (mem ns) rs i = _
        omega
      refine ⟨Nat.zero_le _, fun p1 h1 => ⟨(by show 2 ≤ sizeLine; decide), fun p2 h2' => ⟨(by show 1 ≤ sizeLine; decide), fun p3 h3 => ?_⟩⟩⟩
      have s1 := same_new (o := .tup []) h1
      have s2 := same_new (o := .tup [V.int 9, V.ref p1]) h2'
      have s3 := same_new (o := .lst [V.ref p2]) h3
      have s13 := (s1.trans s2).trans s3
      have ho3 := sqL_same s13 ho
      have at1 : atI (offTo (mem ns) rs rs.length) (((i : Nat) : Int) + 1) = some (.int (off (mem ns) rs (i + 1))) := by
        have e : ((i : Nat) : Int) + 1 = ((i + 1 : Nat) : Int) := by omega
        rw [e]
        exact offTo_at (by omega)
      refine ⟨_, rfl, _, rfl, _, _, rfl, rfl, o, _, _, _, rfl, rfl, ho3, at1, _, rfl, _, rfl, o, _, _, _, rfl, rfl, ho3, offTo_at (j := i) (by omega), _, _, rfl, rfl, ?_⟩
      refine ⟨p3, _, _, rfl, rfl, upd_same, by omega, by omega, ?_, fun p4 h4 => ?_⟩
      · rw [ed]
        show 1 * _ ≤ sizeLine
        exact Nat.le_trans (m := 1000) (by omega) (by decide)
      · have s4 := same_new (o := .lst (List.replicate (off (mem ns) rs (i + 1) - off (mem ns) rs i).toNat [V.ref p2]).flatten) h4
        have fl : (List.replicate (off (mem ns) rs (i + 1) - off (mem ns) rs i).toNat [V.ref p2]).flatten = List.replicate (off (mem ns) rs (i + 1) - off (mem ns) rs i).toNat (V.ref p2) := by simp
        rw [fl] at s4 ⊢
        have hs9 : SumE (upd (upd (upd (upd H p1 (.tup [])) p2 (.tup [V.int 9, V.ref p1])) p3 (.lst [V.ref p2])) p4 (.lst (List.replicate (off (mem ns) rs (i + 1) - off (mem ns) rs i).toNat (V.ref p2)))) (.ref p2) (9, []) := ⟨p2, p1, [], rfl, s4 _ _ (s3 _ _ upd_same), s4 _ _ (s3 _ _ (s2 _ _ upd_same)), .nil⟩
        refine q _ p4 _ (s13.trans s4) (none_of_f s13 h4) upd_same (eachs_rep hs9 _) ?_
        rw [List.length_replicate]
        omega
    | label z =>
      obtain ⟨a, rfl, h2⟩ := hv
      refine ⟨_, rfl, a, _, _, _, rfl, rfl, h2, at_of (i := 0) rfl, rfl, _, rfl, kNe (by decide +kernel) ?_⟩
      refine ⟨_, rfl, a, _, _, _, rfl, rfl, h2, at_of (i := 0) rfl, rfl, _, rfl, kNe (by decide +kernel) ?_⟩
      refine ⟨_, rfl, a, _, _, _, rfl, rfl, h2, at_of (i := 0) rfl, rfl, _, rfl, kEq (by decide +kernel) ?_⟩
      exact ⟨Nat.zero_le _, fun p1 h1 => q _ p1 [] (same_new h1) h1 upd_same .nil (Nat.zero_le _)⟩
    | branch c n m =>
      obtain ⟨a, rfl, h2⟩ := hv
      obtain ⟨hc, hn1, hn2⟩ := hf
      obtain ⟨hn, near⟩ := hb c n m rfl
      refine ⟨_, rfl, a, _, _, _, rfl, rfl, h2, at_of (i := 0) rfl, rfl, _, rfl, kNe (by decide +kernel) ?_⟩
      refine ⟨_, rfl, a, _, _, _, rfl, rfl, h2, at_of (i := 0) rfl, rfl, _, rfl, kNe (by decide +kernel) ?_⟩
      refine ⟨_, rfl, a, _, _, _, rfl, rfl, h2, at_of (i := 0) rfl, rfl, _, rfl, kNe (by decide +kernel) ?_⟩
      refine ⟨_, rfl, a, _, rfl, h2, rfl, _, _, rfl, _, _, rfl, _, _, rfl, _, _, rfl, rfl, ?_⟩
      refine ⟨_, rfl, (by show 2 ≤ sizeLine; decide), fun p1 h1 => ⟨(by show 2 ≤ sizeLine; decide), fun p2 h2' => ⟨(by show 1 ≤ sizeLine; decide), fun p3 h3 => ⟨(by show 2 ≤ sizeLine; decide), fun p4 h4 => ?_⟩⟩⟩⟩
      have s1 := same_new (o := .tup [V.str "name", V.str n]) h1
      have s2 := same_new (o := .tup [V.ref p1, V.int 1]) h2'
      have s3 := same_new (o := .tup [V.ref p2]) h3
      have s4 := same_new (o := .tup [V.int 0, V.ref p3]) h4
      have s04 := ((s1.trans s2).trans s3).trans s4
      have nameS : SumT (upd (upd (upd (upd H p1 (.tup [V.str "name", V.str n])) p2 (.tup [V.ref p1, V.int 1])) p3 (.tup [V.ref p2])) p4 (.tup [V.int 0, V.ref p3])) (.ref p4) 0 [(nameU n, 1)] := ⟨p4, p3, [.ref p2], rfl, upd_same, s4 _ _ upd_same, .cons ⟨p2, p1, rfl, s4 _ _ (s3 _ _ upd_same), s4 _ _ (s3 _ _ (s2 _ _ upd_same))⟩ .nil⟩
      generalize upd (upd (upd (upd H p1 (.tup [V.str "name", V.str n])) p2 (.tup [V.ref p1, V.int 1])) p3 (.tup [V.ref p2])) p4 (.tup [V.int 0, V.ref p3]) = H5 at s04 nameS ⊢
      have ou : OkU (subU (adr (mem ns) rs) p (nameU n)) := by
        show OkU (if sName = sName ∧ ((adr (mem ns) rs) n).isSome = true then [.inr sPiece, .inr p] else nameU n)
        split
        · exact ⟨_, _, rfl, .inl rfl, hp⟩
        · exact ⟨_, _, rfl, .inr rfl, hn⟩
      refine ⟨_, rfl, _, rfl, l, _, rfl, sqE_same s04 hl, rfl, flat_ints ns, _, rfl, ?_⟩
      show if inV (.int ((i : Nat) : Int)) (ns.map V.int) = true then _ else _
      rw [inV_ints]
      cases ci : decide (((i : Nat) : Int) ∈ ns) with
      | true =>
        have mi : mem ns (i : Nat) = true := ci
        obtain ⟨t2, hk2⟩ := Fa.has c hc
        have c0 : 0 ≤ farC c ∧ farC c ≤ 31 := by
          unfold farC nearC
          split
          · omega
          · split <;> omega
        refine iteT ⟨_, rfl, c, _, .int (farC c), rfl, rfl, hk2, ⟨_, rfl⟩, farC c, 0, rfl, c0.1, c0.2, Nat.zero_le _, fun p5 h5 => ⟨(by show 2 ≤ sizeLine; decide), fun p6 h6 => ?_⟩⟩
        have s5 := same_new (o := .tup []) h5
        have s6 := same_new (o := .tup [V.int (farC c + 2048 * 0), V.ref p5]) h6
        have sA : SumE (upd (upd H5 p5 (.tup [])) p6 (.tup [V.int (farC c + 2048 * 0), V.ref p5])) (.ref p6) (farC c, []) := ⟨p6, p5, [], rfl, (by
          have e : farC c + 2048 * 0 = farC c := by omega
          rw [e]
          exact upd_same), s6 _ _ upd_same, .nil⟩
        generalize upd (upd H5 p5 (.tup [])) p6 (.tup [V.int (farC c + 2048 * 0), V.ref p5]) = H6 at s6 sA ⊢
        have s56 := s5.trans s6
        have s06 := s04.trans s56
        refine ⟨_, rfl, _, rfl, .ref p4, 0, [(nameU n, 1)], d, kvs, adr (mem ns) rs, p, rfl, sumT_s (TupS.of s56) nameS, s06 _ _ hd, worthsV_s (TupS.of s06) hw, fun q' hq' => ?_, fun u hu' => ?_, by simp, fun v7 H7 s7 h7 => ?_⟩
        · rw [List.mem_singleton.mp hq']
          exact ⟨(by show -(2 ^ 63) ≤ (1 : Int); decide), (by show (1 : Int) ≤ 2 ^ 63; decide)⟩
        · have e : u = nameU n := by simpa using hu'
          rw [e]
          exact nm_name n
        rw [putAll_one] at h7
        have h7 : SumT H7 v7 (0 + subN (adr (mem ns) rs) (nameU n)) (form [(subU (adr (mem ns) rs) p (nameU n), 1)]) := h7
        rw [form_one] at h7
        have okW : OkM (.sum (0 + subN (adr (mem ns) rs) (nameU n)) [(subU (adr (mem ns) rs) p (nameU n), 1)]) := ⟨by simp, fun q' hq' => by
          rw [List.mem_singleton.mp hq']
          exact ⟨ou, (by show -4 ≤ (1 : Int); decide), (by show (1 : Int) ≤ 4; decide)⟩⟩
        have okN : OkM (.num m) := trivial
        have rd := read_ok okW
        have rd2 : readSum (rawD (.sum (0 + subN (adr (mem ns) rs) (nameU n)) [(subU (adr (mem ns) rs) p (nameU n), 1)])) = some (0 + subN (adr (mem ns) rs) (nameU n), [(subU (adr (mem ns) rs) p (nameU n), 1)]) := by
          rw [rd]
          exact congrArg (fun z => some (0 + subN (adr (mem ns) rs) (nameU n), z)) ((congrArg form (acc_one _)).trans (form_one _))
        refine ⟨_, rfl, v7, .int m, rawD (.sum (0 + subN (adr (mem ns) rs) (nameU n)) [(subU (adr (mem ns) rs) p (nameU n), 1)]), rawD (.num m), 0 + subN (adr (mem ns) rs) (nameU n), m, [(subU (adr (mem ns) rs) p (nameU n), 1)], [], rfl, .dat (sumT_dp h7), .dat (.int m), okSum_ok okW, okSum_ok okN, rd2, rfl, ?_, ?_, ?_, (by show 1 ≤ 400; decide), (by show 0 ≤ 400; decide), fun v8 H8 s8 h8 => ?_⟩
        · exact (by simp : ([subU (adr (mem ns) rs) p (nameU n)] : List (List Key)).Nodup)
        · intro u hu'
          have e : u = subU (adr (mem ns) rs) p (nameU n) := by simpa using hu'
          rw [e]
          exact okU_nm ou
        · intro u hu'
          cases hu'
        have h8 : SumT H8 v8 (0 + subN (adr (mem ns) rs) (nameU n) + m) (form [(subU (adr (mem ns) rs) p (nameU n), 1)]) := h8
        rw [form_one] at h8
        refine ⟨(by show 2 ≤ sizeLine; decide), fun p9 h9 => ?_⟩
        have s9 := same_new (o := .lst [V.ref p6, v8]) h9
        have s08 := (s06.trans s7).trans s8
        refine q _ p9 [V.ref p6, v8] (s08.trans s9) (none_of_f s08 h9) upd_same ?_ (by simp)
        have er : rowW (mem ns) rs p i (.branch c n m) = [(farC c, []), (m + subN (adr (mem ns) rs) (nameU n), [(subU (adr (mem ns) rs) p (nameU n), 1)])] := by
          show (if mem ns (i : Nat) = true then _ else _) = _
          rw [if_pos mi]
        rw [er]
        have e2 : 0 + subN (adr (mem ns) rs) (nameU n) + m = m + subN (adr (mem ns) rs) (nameU n) := by omega
        rw [e2] at h8
        exact .cons (sumE_s (TupS.of ((s7.trans s8).trans s9)) sA) (.cons (sumE_s (s := (m + subN (adr (mem ns) rs) (nameU n), [(subU (adr (mem ns) rs) p (nameU n), 1)])) (TupS.of s9) h8) .nil)
      | false =>
        have mi : mem ns (i : Nat) = false := ci
        obtain ⟨oz, hoz⟩ := near mi
        obtain ⟨y, hy, a1, b1, zs, ey, ha1, _⟩ : ∃ y, valV kvs (nameU n) = some y ∧ SumT H5 y oz [(pieceU p, 1)] := by
          have h5 := worthsV_s (TupS.of s04) hw (nameU n)
          revert h5
          cases valV kvs (nameU n) with
          | some y =>
            rintro ⟨z, o', ez, hg, hs⟩
            have : n = z := by
              have e := (List.cons.inj (List.cons.inj ez).2).1
              exact Sum.inr.inj e
            subst this
            rw [hoz] at hg
            cases hg
            exact ⟨y, rfl, hs⟩
          | none =>
            intro h
            rw [h n rfl] at hoz
            cases hoz
        obtain ⟨t1, hk1⟩ := N.has c hc
        have c0 : 0 ≤ nearC c ∧ nearC c ≤ 31 := by
          unfold nearC
          split
          · omega
          · split <;> omega
        refine iteF ⟨_, rfl, _, rfl, (by show 2 ≤ sizeLine; decide), fun p5 h5 => ?_⟩
        have s5 := same_new (o := .tup [V.str "name", V.str n]) h5
        refine ⟨d, y, rfl, .inr ⟨kvs, nameU n, p5, .inl (s5 _ _ (s04 _ _ hd)), rfl, upd_same, hy.symm⟩, ?_⟩
        subst ey
        refine ⟨a1, _, _, _, rfl, rfl, SqT.of (s5 _ _ ha1), at_of (i := 0) rfl, _, rfl, _, rfl, o, _, _, _, rfl, rfl, sqL_same (s04.trans s5) ho, offTo_at (j := i) (by omega), _, _, rfl, rfl, ?_⟩
        have s05 := s04.trans s5
        generalize upd H5 p5 (.tup [V.str "name", V.str n]) = H6 at s05 s5 ⊢
        refine ⟨_, rfl, c, _, .int (nearC c), rfl, rfl, hk1, ⟨_, rfl⟩, _, rfl, nearC c, _, rfl, c0.1, c0.2, Nat.zero_le _, fun p7 h7 => ⟨(by show 2 ≤ sizeLine; decide), fun p8 h8 => ⟨(by show 1 ≤ sizeLine; decide), fun p9 h9 => ?_⟩⟩⟩
        have s7 := same_new (o := .tup []) h7
        have s8 := same_new (o := .tup [V.int (nearC c + 2048 * (oz - off (mem ns) rs i)), V.ref p7]) h8
        have s9 := same_new (o := .lst [V.ref p8]) h9
        have s08 := (s05.trans s7).trans s8
        refine q _ p9 [V.ref p8] (s08.trans s9) (none_of_f s08 h9) upd_same ?_ (by simp)
        have er : rowW (mem ns) rs p i (.branch c n m) = [(nearC c + 2048 * (oz - off (mem ns) rs i), [])] := by
          show (if mem ns (i : Nat) = true then _ else [(nearC c + 2048 * ((adr (mem ns) rs n).getD 0 - off (mem ns) rs i), [])]) = _
          rw [if_neg (by rw [mi]; exact Bool.false_ne_true), hoz]
          rfl
        rw [er]
        exact .cons ⟨p8, p7, [], rfl, s9 _ _ upd_same, s9 _ _ (s8 _ _ upd_same), .nil⟩ .nil
end

/-! ### coded_words -/
/-- the words of the first rows -/
def codT (f : Int → Bool) (rs : List Row) (p : Str) : Nat → List (Int × Mul)
  | 0 => []
  | i + 1 => codT f rs p i ++ (match rs[i]? with
    | some r => rowW f rs p i r
    | none => [])
theorem codT_succ {f : Int → Bool} {rs : List Row} {p : Str} {i : Nat} {r : Row} (h : rs[i]? = some r) : codT f rs p (i + 1) = codT f rs p i ++ rowW f rs p i r := by
  show codT f rs p i ++ _ = _
  rw [h]
/-- branches lead to names that occur -/
def BrN (rs : List Row) : Prop := ∀ (k : Nat) (c n : Str) (m : Int), rs[k]? = some (Row.branch c n m) → n ∈ nmS
def spCW (K : PySem.W.Frag) (C CN CC CT : Addr) : Sp := fun vs H Q E => ∃ (x : Addr) (v u : V) (rs : List Row), vs = [.ref x, v, u] ∧ DraftV K H C x rs ∧
  ((∃ d, Th K H v d ∧ shortS d ∧ isNm d = false ∧ ThE "name" CN v H E) ∨
   ∃ p, v = .str p ∧ p ∈ nmS ∧
    ((∃ d, Th K H u d ∧ (items d = none ∨ ∃ ds, items d = some ds ∧ ds.length ≤ 900 ∧ ds.all (brB rs) = false) ∧ ThE "thing" CC u H E) ∨
     ∃ d ns, Th K H u d ∧ items d = some (ns.map .int) ∧ ChOk rs ns ∧
      ((∃ k0 ks, long (mem ns) rs = k0 :: ks ∧ ThE "index" CT (.int ((k0 : Nat) : Int)) H E) ∨
       (long (mem ns) rs = [] ∧ BrN rs ∧ rs.length ≤ 100 ∧ ∀ H' q ys, Same H H' → H q = none → H' q = some (.lst ys) → PySem.W.EachIs (SumE H') ys (codT (mem ns) rs p rs.length) → ys.length ≤ 100000 → Q (.ref q) H'))))
abbrev sCW : Stmt := mth 24
abbrev NCW : List Str := ["self", "p", "choice", "far", "longer", "offsets", "meanings", "found", "index", "row"]
theorem scCW : FnScope NCW ["self", "p", "choice"] (defScope sCW) := ⟨rfl, rfl, rfl, by decide +kernel, rfl, by decide +kernel, by decide +kernel⟩
theorem rowsP_get {K : PySem.W.Frag} {H : Hp} : ∀ {xs : List V} {rs : List Row}, RowsP K H xs rs → ∀ {i : Nat} {v : V}, xs[i]? = some v → ∃ r, rs[i]? = some r ∧ RowP K H v r
  | _, _, .nil, i, v, h => by simp at h
  | _, _, .cons g t, 0, v, e => by
    obtain rfl : _ = v := Option.some.inj e
    exact ⟨_, rfl, g⟩
  | _, _, .cons g t, i + 1, v, e => rowsP_get t (i := i) e
theorem eachs_app {α β : Type} {R : α → β → Prop} : ∀ {ys zs : List α} {us vs : List β}, PySem.W.EachIs R ys us → PySem.W.EachIs R zs vs → PySem.W.EachIs R (ys ++ zs) (us ++ vs)
  | _, _, _, _, .nil, h => h
  | _, _, _, _, .cons g t, h => .cons g (eachs_app t h)
theorem ThE.of {f : Str} {C : Addr} {v : V} {H H1 : Hp} {E : XK} (h : ThE f C v H E) (e : Same H H1) : ThE f C v H1 E := fun H' dx s hd => h H' dx (e.trans s) hd
section
variable {P : Program} {w : World} {K : PySem.W.Frag} {mg : Str → Option Value} {base : Heap}
theorem ok_cw {f C CN CC CT : Addr} {fd : FuncData} (F : Fun K "coded_words" "Draft.coded_words" sCW f fd) (T : Bi mg) (B : DrC K C) (SN : Err P w K mg base "NoName" CN "name") (ST : Err P w K mg base "TooLong" CT "index") (G1 : Has P w K mg base CX0 10 "is_name" ["thing"] (spIsName K))
    (M1 : HasM P w K mg base (L2.CX P w) 10 C "chosen" ["self", "thing"] (spChosen K C CC)) (G2 : Has P w K mg base CX0 10 "too_long_ones" ["parts", "aims", "far"] (spTooLong K)) (G3 : Has P w K mg base CX0 10 "measured" ["rows", "far"] (spMeasured K)) (G4 : Has P w K mg base CX0 10 "meanings_of" ["rows", "offsets", "p"] (spMeanings K))
    (G5 : Has P w K mg base CX0 10 "words_of_row" ["row", "index", "far", "offsets", "meanings"] (spWords K)) : FnOk P w K mg base (L2.CX P w) 11 f fd ["self", "p", "choice"] (spCW K C CN CC CT) := by
  refine F.okX scCW (fun vs H Q E h => ?_) (fun cdv A outer s H vs Q E hr h => ?_)
  · obtain ⟨x, v, u, rs, rfl, _⟩ := h
    rfl
  · obtain ⟨x, v, u, rs, rfl, dv, want⟩ := h
    refine ⟨_, (pss_cons (ps_if (pt_not (pt_val (pe_callH G1 hr (by rfl) pass0 (pa_cons (pv 1) pa_nil)))) (pss_one (ps_err rfl (takes_of rfl rfl rfl rfl) SN hr (by decide) (pv 1))) pss_nil)
      (pss_cons (ps_set (i := 3) scCW.nd rfl (.inl rfl) (pe_methH M1 (pv 0) hr (passes_call (W := fun cls d _ H => E cls d H) (takes_of rfl rfl rfl rfl) (fun _ _ _ _ h => h)) (pa_cons (pv 2) pa_nil)))
      (pss_cons (ps_set (i := 4) scCW.nd rfl (.inl rfl) (pe_callH G2 hr (by rfl) pass0 (pa_cons (pe_fld (pv 0) rfl) (pa_cons (pe_fld (pv 0) rfl) (pa_cons (pv 3) pa_nil)))))
      (pss_cons (ps_if (pt_truth (pv 4) (by intro _; rfl)) (pss_one (ps_err rfl (takes_of rfl rfl rfl rfl) ST hr (by decide) (pe_ix ix_list (pv 4) pe_int (fun _ _ => rfl)))) pss_nil)
      (pss_cons (ps_set (i := 5) scCW.nd rfl (.inl rfl) (pe_callH G3 hr (by rfl) pass0 (pa_cons (pe_fld (pv 0) rfl) (pa_cons (pv 3) pa_nil))))
      (pss_cons (ps_set (i := 6) scCW.nd rfl (.inl rfl) (pe_callH G4 hr (by rfl) pass0 (pa_cons (pe_fld (pv 0) rfl) (pa_cons (pv 5) (pa_cons (pv 1) pa_nil)))))
      (pss_cons (ps_set (i := 7) scCW.nd rfl (.inl rfl) (pe_lst pa_nil))
      (pss_cons (ps_for (passes_of rfl) rfl (pi_enumT (by rfl) T.enumerate (pa_cons (pe_fld (pv 0) rfl) pa_nil)) (pg_tup rfl (pgs_cons (pg_name (i := 8) scCW.nd rfl (.inl rfl)) (pgs_cons (pg_name (i := 9) scCW.nd rfl (.inl rfl)) pgs_nil)))
        (pss_one (ps_expr (pe_bm PySem.F.plainAttrs_list PySem.F.slot_list_extend PySem.F.type_list_extend mt_extend (pv 7) (pa_cons (pe_callH G5 hr (by rfl) pass0 (pa_cons (pv 9) (pa_cons (pv 8) (pa_cons (pv 3) (pa_cons (pv 5) (pa_cons (pv 6) pa_nil)))))) pa_nil)))))
      (pss_one (ps_ret (pv 7))))))))))), ?_⟩
    rcases want with ⟨d, th, sh, nn, hE⟩ | ⟨p, rfl, hp, want⟩
    · refine ⟨_, rfl, v, d, rfl, th, sh, fun H1 s1 => ⟨_, rfl, ?_⟩⟩
      rw [nn]
      exact iteT ⟨_, rfl, err_go fun dx' hdx => hE H1 dx' s1 hdx⟩
    · obtain ⟨p1, p2, _⟩ := nmS_ok p hp
      refine ⟨_, rfl, .str p, .str p, rfl, .dat (.str p), p2, fun H1 s1 => ⟨_, rfl, ?_⟩⟩
      have en : isNm (.str p) = true := p1
      rw [en]
      refine iteF ?_
      have dv1 := draftV_same s1 dv
      obtain ⟨ok, dx, pa, fq, dd, oo, ys, hx0⟩ := id dv
      have hx1 := hx0.same s1
      rcases want with ⟨d, th, bad, hE⟩ | ⟨d, ns, th, hit, ch, want⟩
      · refine ⟨_, rfl, x, dx, _, rfl, hx1.ins, rfl, _, rfl, x, u, d, rs, rfl, dv1, th_same s1 th, .inr ⟨bad, fun H2 dx s2 hd => ?_⟩⟩
        exact hE H2 dx (s1.trans s2) hd
      · refine ⟨_, rfl, x, dx, _, rfl, hx1.ins, rfl, _, rfl, x, u, d, rs, rfl, dv1, th_same s1 th, .inl ⟨_, hit, ns, rfl, ch, fun H2 l s2 hl => ?_⟩⟩
        have hx2 := hx1.same s2
        have okr : ∀ r ∈ rs, RowOk r := fun r hr => fine_ok (ok.fine r hr)
        refine ⟨_, rfl, x, C, dx, _, _, rfl, hx2.ins, B.cl, B.n1, rfl, _, rfl, x, C, dx, _, _, rfl, hx2.ins, B.cl, B.n3, rfl, _, rfl, pa, dd, l, ys, rs, ns, rfl, hx2.parts, rowsP_V hx2.rows, okr, ok.len, hx2.aims, .inr hl, fun H3 lo s3 _ hlo => ?_⟩
        have s03 := (s1.trans s2).trans s3
        refine ⟨_, rfl, _, .inl ⟨_, SqL.of hlo, rfl⟩, ?_⟩
        rcases want with ⟨k0, ks, elg, hE⟩ | ⟨elg, hbr, few, qq⟩
        · rw [elg] at hlo ⊢
          refine iteT ⟨_, rfl, lo, _, _, _, rfl, rfl, SqL.of hlo, at_of (i := 0) rfl, err_go fun dx' hdx => ?_⟩
          exact hE H3 dx' s03 hdx
        · rw [elg] at hlo ⊢
          refine iteF ?_
          have hx3 := hx2.same s3
          have hl3 := sqT_same s3 hl
          refine ⟨_, rfl, x, C, dx, _, _, rfl, hx3.ins, B.cl, B.n1, rfl, _, rfl, pa, l, ys, rs, ns, rfl, hx3.parts, rowsP_V hx3.rows, okr, ok.len, .inr hl3, fun H4 fo s4 _ hfo => ?_⟩
          have hx4 := hx3.same s4
          refine ⟨_, rfl, x, C, dx, _, _, rfl, hx4.ins, B.cl, B.n1, rfl, _, rfl, _, rfl, pa, fo, ys, rs, mem ns, p, rfl, hx4.parts, rowsP_V hx4.rows, ok.len, SqL.of hfo, fun H5 dm kvs s5 _ hdm hw => ?_⟩
          have s35 := s4.trans s5
          have s05 := s03.trans s35
          refine ⟨Nat.zero_le _, fun D hD => ?_⟩
          have sD := same_new (o := .lst []) hD
          have hx6 := (hx3.same s35).same sD
          refine ⟨_, rfl, x, C, dx, _, _, rfl, hx6.ins, B.cl, B.n1, rfl, pa, ys, rfl, hx6.parts, ?_⟩
          have lx := rowsV_len (rowsP_V hx0.rows)
          refine for_it walk_enumT (fun i σ H6 => ∃ (a b : Option V) (zs : List V), σ = [some (.ref x), some (.str p), some u, some (.ref l), some (.ref lo), some (.ref fo), some (.ref dm), some (.ref D), a, b] ∧ (∀ c o, c ≠ D → H5 c = some o → H6 c = some o) ∧ H6 D = some (.lst zs) ∧ PySem.W.EachIs (SumE H6) zs (codT (mem ns) rs p i) ∧ zs.length ≤ 1000 * i)
            ⟨none, none, [], rfl, fun c o hc e => by rw [upd_ne hc]; exact e, upd_same, .nil, Nat.le_refl _⟩ (fun i σ H6 _ ⟨_, _, _, _, kp, _⟩ => sqT_same (fun c o e => kp c o (ne_of_none e hD) e) (hx3.same s35).parts) ?_ ?_
          · rintro i z σ H6 H6' hi ⟨a, b, zs, rfl, kp, hD6, hzs, lz⟩ ⟨TT, x', y, rfl, hT, rfl, hx', hy⟩
            cases hx'
            have s56 : Same H5 H6 := fun c o e => kp c o (ne_of_none e hD) e
            have sT := same_new (o := .tup [V.int ((i : Nat) : Int), y]) hT
            have hD7 := sT _ _ hD6
            have kp7 : ∀ c o, c ≠ D → H5 c = some o → upd H6 TT (.tup [V.int ((i : Nat) : Int), y]) c = some o := fun c o hc e => sT _ _ (kp c o hc e)
            have hT7 : upd H6 TT (.tup [V.int ((i : Nat) : Int), y]) TT = some (.tup [V.int ((i : Nat) : Int), y]) := upd_same
            have hzs7 := eachs_imp (fun _ _ => sumE_s (TupS.of sT)) hzs
            generalize upd H6 TT (.tup [V.int ((i : Nat) : Int), y]) = H7 at sT hD7 kp7 hT7 hzs7 ⊢
            have s57 : Same H5 H7 := fun c o e => kp7 c o (ne_of_none e hD) e
            have hx7 := (hx3.same s35).same s57
            obtain ⟨r, hri, hrp⟩ := rowsP_get hx7.rows hy
            have hi2 : i < rs.length := (List.getElem?_eq_some_iff.mp hri).1
            refine ⟨TT, _, rfl, SqT.of hT7, rfl, _, _, rfl, _, _, rfl, rfl, ?_⟩
            refine ⟨_, rfl, .inl ⟨rfl, _, SqL.of hD7⟩, _, rfl, _, rfl, _, rfl, _, rfl, _, rfl, y, r, i, l, fo, dm, ns, kvs, rs, p, rfl, hrp, ok.fine r (List.mem_of_getElem? hri), hri, .inr (sqT_same (s35.trans s57) hl3), SqL.of (s57 _ _ (s5 _ _ hfo)), s57 _ _ hdm, worthsV_s (TupS.of s57) hw, ?_, hp, fun H9 qa ws s9 _ hqa hws lws => ?_⟩
            · intro c n m er
              subst er
              refine ⟨hbr i c n m hri, fun near => ?_⟩
              cases ea : adr (mem ns) rs n with
              | some o => exact ⟨o, rfl⟩
              | none =>
                have hsp : spot rs n = none := by
                  unfold adr at ea
                  exact Option.map_eq_none_iff.mp ea
                have hai : aim rs i = none := by
                  unfold aim
                  rw [toOf_at hri]
                  exact hsp
                have hout : i ∈ outs rs := by
                  unfold outs
                  refine List.mem_filter.mpr ⟨?_, by rw [hai]; rfl⟩
                  unfold brs brsTo
                  refine List.mem_filter.mpr ⟨List.mem_range.mpr hi2, ?_⟩
                  rw [isBr_at hri]
                have hin := ch.out i hout
                have near2 : decide (((i : Nat) : Int) ∈ ns) = false := near
                rw [decide_eq_true hin] at near2
                cases near2
            · have hD9 := s9 _ _ hD7
              have tp : TupS H9 (upd H9 D (.lst (zs ++ ws))) := TupS.put hD9 (by intro xs z; cases z)
              refine ⟨D, qa, zs, ws, rfl, rfl, hD9, hqa, ?_, some (.int ((i : Nat) : Int)), some y, zs ++ ws, rfl, fun c o hc e => ?_, upd_same, ?_, ?_⟩
              · rw [sizeLine_eq]
                omega
              · rw [upd_ne hc]
                exact s9 _ _ (kp7 c o hc e)
              · rw [codT_succ hri]
                exact eachs_app (eachs_imp (fun _ _ => sumE_s ((TupS.of s9).trans tp)) hzs7) (eachs_imp (fun _ _ => sumE_s tp) hws)
              · rw [List.length_append]
                omega
          · rintro σ H6 ⟨a, b, zs, rfl, kp, hD6, hzs, lz⟩
            rw [lx] at hzs lz
            have s56 : Same H5 H6 := fun c o e => kp c o (ne_of_none e hD) e
            exact ⟨_, rfl, qq H6 D zs (s05.trans s56) (none_of_f s05 hD) hD6 hzs (by omega)⟩
end

abbrev sLCell : Stmt := topS 54
abbrev sLRow : Stmt := topS 53
theorem scLCell : FnScope ["script", "k"] ["script", "k"] (defScope sLCell) := ⟨rfl, rfl, rfl, by decide +kernel, rfl, by decide +kernel, by decide +kernel⟩
theorem scLRow : FnScope ["cell", "sizes", "out", "size", "seed", "k", "mixed"] ["cell", "sizes"] (defScope sLRow) := ⟨rfl, rfl, rfl, by decide +kernel, rfl, by decide +kernel, by decide +kernel⟩
def spLCell (K : PySem.W.Frag) : Sp := fun vs H Q _ => ∃ (l : Addr) (ns : List Int) (j : Nat), vs = [.ref l, .int (j : Int)] ∧ SqL K H l (ns.map V.int) ∧ ∀ n : Int, Q (.int n) H
/-- drawn: one number below each of the sizes -/
def Drawn (sz out : List Int) : Prop := out.length = sz.length ∧ ∀ (i : Nat) (z : Int), sz[i]? = some z → ∃ d : Int, out[i]? = some d ∧ 0 ≤ d ∧ d < z
def SizesOk (sz : List Int) : Prop := sz.length ≤ 900 ∧ ∀ z ∈ sz, 0 < z ∧ z < 1000
def spLRow (K : PySem.W.Frag) : Sp := fun vs H Q _ => ∃ (n : Int) (l : Addr) (sz : List Int), vs = [.int n, .ref l] ∧ SqL K H l (sz.map V.int) ∧ SizesOk sz ∧ ∀ H' p out, Same H H' → H p = none → H' p = some (.lst (out.map V.int)) → Drawn sz out → Q (.ref p) H'
theorem drawn_step {sz out : List Int} {i : Nat} {z d : Int} (h : Drawn (sz.take i) out) (hz : sz[i]? = some z) (h0 : 0 ≤ d) (h1 : d < z) : Drawn (sz.take (i + 1)) (out ++ [d]) := by
  have hi : i < sz.length := (List.getElem?_eq_some_iff.mp hz).1
  have e : sz.take (i + 1) = sz.take i ++ [z] := by
    rw [List.take_add_one, hz]
    rfl
  rw [e]
  obtain ⟨h2, h3⟩ := h
  refine ⟨by rw [List.length_append, List.length_append, h2]; rfl, fun j y hy => ?_⟩
  by_cases c : j < (sz.take i).length
  · rw [List.getElem?_append_left c] at hy
    rw [List.getElem?_append_left (by omega)]
    exact h3 j y hy
  · rw [List.getElem?_append_right (by omega)] at hy
    rw [List.getElem?_append_right (by omega), h2]
    cases hj : j - (sz.take i).length with
    | zero =>
      rw [hj] at hy
      cases hy
      exact ⟨d, rfl, h0, h1⟩
    | succ m =>
      rw [hj] at hy
      cases hy
section
variable {P : Program} {w : World} {K : PySem.W.Frag} {mg : Str → Option Value} {base : Heap}
theorem ok_lcell {f : Addr} {fd : FuncData} (F : Fun K "_law_cell" "_law_cell" sLCell f fd) (T : Bi mg) : FnOk P w K mg base CX0 1 f fd ["script", "k"] (spLCell K) := by
  refine F.ok scLCell (fun vs H Q E h => ?_) (fun cdv A outer s H vs Q E hr h => ?_)
  · obtain ⟨l, ns, j, rfl, _⟩ := h
    rfl
  · obtain ⟨l, ns, j, rfl, hs, q⟩ := h
    refine ⟨_, (pss_one (ps_ret (pe_ifExp (pt_cmpR op_lt (pv 1) (pe_callB call_len_seq (by rfl) T.len (by decide +kernel) (pa_cons (pv 0) pa_nil)) (nomark _)) (pe_ix ix_list (pv 0) (pv 1) (fun _ _ => rfl)) pe_int))), ?_⟩
    refine ⟨_, rfl, _, rfl, l, _, rfl, .inl hs, _, _, rfl, rfl, _, rfl, ?_⟩
    by_cases hj : j < ns.length
    · have e : decide ((j : Int) < ((ns.map V.int).length : Int)) = true := by
        rw [List.length_map]
        exact decide_eq_true (by omega)
      rw [e]
      exact iteT ⟨_, rfl, _, rfl, l, _, _, .int ns[j], rfl, rfl, hs, at_of (by rw [List.getElem?_map, List.getElem?_eq_getElem hj]; rfl), q _⟩
    · have e : decide ((j : Int) < ((ns.map V.int).length : Int)) = false := by
        rw [List.length_map]
        exact decide_eq_false (by omega)
      rw [e]
      exact iteF (q 0)
theorem pw5 {b z : Int} (h0 : 0 ≤ b) (h1 : b < 2147483647) (h2 : 0 ≤ z) (h3 : z ≤ 100001) : CPow (b + 7919 * z + 104729) 5 := ⟨by decide, by decide, by omega⟩
theorem ok_lrow {f : Addr} {fd : FuncData} (F : Fun K "_law_row" "_law_row" sLRow f fd) (T : Bi mg) : FnOk P w K mg base CX0 1 f fd ["cell", "sizes"] (spLRow K) := by
  refine F.ok scLRow (fun vs H Q E h => ?_) (fun cdv A outer s H vs Q E hr h => ?_)
  · obtain ⟨n, l, sz, rfl, _⟩ := h
    rfl
  · obtain ⟨n, l, sz, rfl, hs, ⟨hl, hz⟩, q⟩ := h
    refine ⟨_, (pss_cons (ps_set (i := 2) scLRow.nd rfl (.inl rfl) (pe_lst pa_nil))
      (pss_cons (ps_if (pt_cmpR op_ge (pv 0) (pe_op op_pow pe_int pe_int) (nomark _)) (pss_cons (ps_for PassesOwn.never rfl (pi_list (pv 1)) (pg_name (i := 3) scLRow.nd rfl (.inl rfl)) (pss_cons (ps_expr (pe_bm PySem.F.plainAttrs_list PySem.F.slot_list_append PySem.F.type_list_append mt_append (pv 2) (pa_cons (pe_op op_mod (pe_callTy call_int1 (by rfl) T.int (by decide +kernel) (pa_cons (pv 0) pa_nil)) (pv 3)) pa_nil)))
        (pss_one (ps_set (i := 0) scLRow.nd rfl (.inl rfl) (pe_op op_fdivN (pv 0) (pv 3))))))
        (pss_one (ps_ret (pv 2)))) pss_nil)
      (pss_cons (ps_set (i := 4) scLRow.nd rfl (.inl rfl) (pe_op op_mod (pe_callTy call_int1 (by rfl) T.int (by decide +kernel) (pa_cons (pv 0) pa_nil)) pe_int))
      (pss_cons (ps_for PassesOwn.never rfl (pi_range1 (by rfl) T.range (pa_cons (pe_callB call_len_seq (by rfl) T.len (by decide +kernel) (pa_cons (pv 1) pa_nil)) pa_nil)) (pg_name (i := 5) scLRow.nd rfl (.inl rfl)) (pss_cons (ps_set (i := 6) scLRow.nd rfl (.inl rfl) (pe_op op_add (pe_op op_mod (pe_callTy call_int1 (by rfl) T.int (by decide +kernel) (pa_cons (pe_op op_pow (pe_op op_add (pe_op op_add (pv 4) (pe_op op_mul pe_int (pv 5))) pe_int) pe_int) pa_nil)) pe_int) (pv 5)))
        (pss_one (ps_expr (pe_bm PySem.F.plainAttrs_list PySem.F.slot_list_append PySem.F.type_list_append mt_append (pv 2) (pa_cons (pe_op op_mod (pe_callTy call_int1 (by rfl) T.int (by decide +kernel) (pa_cons (pe_op op_mod (pe_callTy call_int1 (by rfl) T.int (by decide +kernel) (pa_cons (pe_op op_mul (pv 6) pe_int) pa_nil)) pe_int) pa_nil)) (pe_ix ix_list (pv 1) (pv 5) (fun _ _ => rfl))) pa_nil))))))
      (pss_one (ps_ret (pv 2))))))), ?_⟩
    refine ⟨Nat.zero_le _, fun p hp => ?_⟩
    have s1 := same_new (o := .lst []) hp
    have hpl : p ≠ l ∨ True := .inr trivial
    refine ⟨_, rfl, _, _, rfl, rfl, ⟨by decide, by decide, by decide⟩, _, _, rfl, rfl, _, rfl, ?_⟩
    have szat : ∀ {i : Nat} {v : V}, (sz.map V.int)[i]? = some v → ∃ z, sz[i]? = some z ∧ v = .int z ∧ 0 < z ∧ z < 1000 := by
      intro i v hv
      rw [List.getElem?_map] at hv
      cases e : sz[i]? with
      | none => rw [e] at hv; cases hv
      | some z =>
        rw [e] at hv
        have := hz z (List.mem_of_getElem? e)
        exact ⟨z, rfl, (Option.some.inj hv).symm, this⟩
    have kpS : ∀ {H4 : Hp}, (∀ b o, b ≠ p → H b = some o → H4 b = some o) → Same H H4 := fun kp b o e => kp b o (ne_of_none e hp) e
    refine ite2 (fun c => ?_) (fun c => ?_)
    · refine ⟨_, rfl, l, rfl, ⟨_, sqL_same s1 hs⟩, ?_⟩
      refine for_it walk_list (fun i σ H4 => ∃ (n' : Int) (u : Option V) (out : List Int), σ = [some (.int n'), some (.ref l), some (.ref p), u, none, none, none] ∧ (∀ b o, b ≠ p → H b = some o → H4 b = some o) ∧ H4 p = some (.lst (out.map V.int)) ∧ Drawn (sz.take i) out)
        ⟨n, none, [], rfl, fun b o hb e => by rw [upd_ne hb]; exact e, upd_same, ⟨rfl, fun i z h => by simp at h⟩⟩ (fun i σ H4 _ ⟨_, _, _, _, kp, _⟩ => sqL_same (kpS kp) hs) ?_ ?_
      · rintro i y σ H4 H4' hi ⟨n', u, out, rfl, kp, h4, hd⟩ ⟨rfl, hy⟩
        obtain ⟨z, ez, rfl, z0, z1⟩ := szat hy
        have hlt : i < sz.length := (List.getElem?_eq_some_iff.mp ez).1
        have ol : out.length = i := by
          rw [hd.1, List.length_take]
          omega
        refine ⟨_, rfl, .inl ⟨rfl, _, SqL.of h4⟩, _, rfl, .inl ⟨_, rfl, _, rfl, _, _, rfl, rfl, z0, p, _, _, rfl, rfl, h4, ?_, ?_⟩⟩
        · rw [List.length_map]
          exact small1000 (by omega)
        refine ⟨_, rfl, _, rfl, _, _, rfl, rfl, ⟨by omega, by omega⟩, _, _, _, rfl, fun b o hb e => ?_, ?_, drawn_step (d := n' % z) hd ez (Int.emod_nonneg _ (by omega)) (Int.emod_lt_of_pos _ z0)⟩
        · rw [upd_ne hb]
          exact kp b o hb e
        · rw [upd_same, List.map_append]
          rfl
      · rintro σ H4 ⟨n', u, out, rfl, kp, h4, hd⟩
        rw [List.length_map, List.take_length] at hd
        exact ⟨_, rfl, q H4 p out (kpS kp) hp h4 hd⟩
    · refine ⟨_, rfl, .inl ⟨_, rfl, _, _, rfl, rfl, (by show (0 : Int) < 2147483647; decide), ?_⟩⟩
      refine ⟨_, rfl, l, _, rfl, .inl (sqL_same s1 hs), ?_⟩
      have es : ((sz.map V.int).length : Int).toNat = sz.length := by
        rw [List.length_map]
        exact Int.toNat_natCast _
      refine ⟨_, rfl, ?_, ?_, ?_⟩
      · omega
      · rw [List.length_map]
        omega
      rw [es]
      have m0 : 0 ≤ n % 2147483647 := Int.emod_nonneg _ (by decide)
      have m1 : n % 2147483647 < 2147483647 := Int.emod_lt_of_pos _ (by decide)
      refine for_it walk_range (fun i σ H4 => ∃ (u v : Option V) (out : List Int), σ = [some (.int n), some (.ref l), some (.ref p), none, some (.int (n % 2147483647)), u, v] ∧ (∀ b o, b ≠ p → H b = some o → H4 b = some o) ∧ H4 p = some (.lst (out.map V.int)) ∧ Drawn (sz.take i) out)
        ⟨none, none, [], rfl, fun b o hb e => by rw [upd_ne hb]; exact e, upd_same, ⟨rfl, fun i z h => by simp at h⟩⟩ (fun _ _ _ _ _ => trivial) ?_ ?_
      · rintro i y σ H4 H4' hi ⟨u, v, out, rfl, kp, h4, hd⟩ ⟨rfl, rfl⟩
        have hz1 : (sz.map V.int)[i]? = some (.int sz[i]) := by
          rw [List.getElem?_map, List.getElem?_eq_getElem hi]
          rfl
        obtain ⟨z0, z1⟩ := hz sz[i] (List.getElem_mem hi)
        have ol : out.length = i := by
          rw [hd.1, List.length_take]
          omega
        refine ⟨_, rfl, _, rfl, _, _, rfl, rfl, .inl ⟨by decide, by decide⟩, _, _, rfl, rfl, _, _, rfl, rfl, _, _, rfl, rfl, pw5 m0 m1 (by omega) (by omega), .inl ⟨_, rfl, _, _, rfl, rfl, (by show (0 : Int) < 2147483647; decide), _, rfl, _, _, rfl, rfl, ?_⟩⟩
        refine ⟨_, rfl, .inl ⟨rfl, _, SqL.of h4⟩, _, rfl, _, _, rfl, rfl, .inr ⟨by decide, by decide⟩, .inl ⟨_, rfl, _, _, rfl, rfl, (by show (0 : Int) < 2147483629; decide), .inl ⟨_, rfl, _, rfl, _, rfl, l, _, _, .int sz[i], rfl, congrArg V.int (Int.zero_add _), sqL_same (kpS kp) hs, at_of hz1, _, _, rfl, rfl, z0, p, _, _, rfl, rfl, h4, ?_, _, _, _, rfl, fun b o hb e => ?_, ?_, drawn_step (d := ((n % 2147483647 + 7919 * (0 + (i : Int)) + 104729) ^ (5 : Int).toNat % 2147483647 + (0 + (i : Int))) * 40692 % 2147483629 % sz[i]) hd (List.getElem?_eq_getElem hi) (Int.emod_nonneg _ (by omega)) (Int.emod_lt_of_pos _ z0)⟩⟩⟩
        · rw [List.length_map]
          exact small1000 (by omega)
        · rw [upd_ne hb]
          exact kp b o hb e
        · rw [upd_same, List.map_append]
          rfl
      · rintro σ H4 ⟨u, v, out, rfl, kp, h4, hd⟩
        rw [List.take_length] at hd
        exact ⟨_, rfl, q H4 p out (kpS kp) hp h4 hd⟩
end

/-! ### growth: the mathematics -/
def fN (ks : List Nat) : Int → Bool := mem (ks.map fun (k : Nat) => (k : Int))
theorem fN_mem {ks : List Nat} {k : Nat} : fN ks (k : Int) = decide (k ∈ ks) := by
  unfold fN mem
  by_cases h : k ∈ ks
  · rw [decide_eq_true h]
    exact decide_eq_true (List.mem_map.mpr ⟨k, h, rfl⟩)
  · rw [decide_eq_false h]
    refine decide_eq_false fun z => ?_
    obtain ⟨j, hj, e⟩ := List.mem_map.mp z
    exact h (by rw [← Int.ofNat.inj e]; exact hj)
/-- the branches that are not far yet -/
def rem (rs : List Row) (far : List Nat) : List Nat := (inn rs).filter fun k => !decide (k ∈ outs rs ++ far)
theorem filter_two {α : Type} (p : α → Bool) : ∀ l : List α, (l.filter p).length + (l.filter fun a => !p a).length = l.length
  | [] => rfl
  | a :: l => by
    have h := filter_two p l
    cases e : p a with
    | true => simp [List.filter, e]; omega
    | false => simp [List.filter, e]; omega
theorem long_rem (rs : List Row) (far : List Nat) : long (fN (outs rs ++ far)) rs = (rem rs far).filter fun k => tooL (way (fN (outs rs ++ far)) rs k) := by
  unfold long rem
  rw [List.filter_filter]
  congr 1
  funext k
  unfold isLong
  rw [fN_mem, Bool.and_comm]
theorem rem_next (rs : List Row) (far : List Nat) : (rem rs (far ++ long (fN (outs rs ++ far)) rs)).length + (long (fN (outs rs ++ far)) rs).length = (rem rs far).length := by
  have e : rem rs (far ++ long (fN (outs rs ++ far)) rs) = (rem rs far).filter fun k => !tooL (way (fN (outs rs ++ far)) rs k) := by
    unfold rem
    rw [List.filter_filter]
    apply List.filter_congr
    intro k hk
    have hm : k ∈ long (fN (outs rs ++ far)) rs ↔ k ∉ outs rs ++ far ∧ tooL (way (fN (outs rs ++ far)) rs k) = true := by
      unfold long
      rw [List.mem_filter]
      unfold isLong
      rw [fN_mem, Bool.and_eq_true]
      constructor
      · rintro ⟨_, h1, h2⟩
        exact ⟨by simpa using h1, h2⟩
      · rintro ⟨h1, h2⟩
        exact ⟨hk, by simpa using h1, h2⟩
    rw [← List.append_assoc]
    by_cases h1 : k ∈ outs rs ++ far
    · have h2 : k ∈ outs rs ++ far ++ long (fN (outs rs ++ far)) rs := List.mem_append_left _ h1
      simp only [decide_eq_true h2, decide_eq_true h1, Bool.not_true, Bool.and_false]
    · cases h3 : tooL (way (fN (outs rs ++ far)) rs k) with
      | true =>
        have h2 : k ∈ outs rs ++ far ++ long (fN (outs rs ++ far)) rs := List.mem_append_right _ (hm.mpr ⟨h1, h3⟩)
        simp only [decide_eq_true h2, decide_eq_false h1, Bool.not_true, Bool.not_false, Bool.and_true]
      | false =>
        have h2 : k ∉ outs rs ++ far ++ long (fN (outs rs ++ far)) rs := fun z => by
          rcases List.mem_append.mp z with z | z
          · exact h1 z
          · have := (hm.mp z).2
            rw [h3] at this
            cases this
        simp only [decide_eq_false h2, decide_eq_false h1, Bool.not_false, Bool.and_true]
  rw [e]
  have h := filter_two (fun k => tooL (way (fN (outs rs ++ far)) rs k)) (rem rs far)
  have l := long_rem rs far
  rw [← l] at h
  omega
def zs (ks : List Nat) : List Int := ks.map fun (k : Nat) => (k : Int)
theorem zs_len (ks : List Nat) : (zs ks).length = ks.length := List.length_map ..
theorem nats_zs (ks : List Nat) : nats ks = (zs ks).map V.int := nats_int ks
theorem mem_zs {ks : List Nat} {n : Int} : n ∈ zs ks ↔ ∃ k ∈ ks, (k : Int) = n := List.mem_map
theorem aim_of {rs : List Row} {k : Nat} {n : Str} (h : toOf rs k = some n) : aim rs k = spot rs n := by
  unfold aim
  rw [h]
  rfl
theorem outs_len (rs : List Row) : (outs rs).length ≤ rs.length := by
  have h1 : (outs rs).length ≤ (brs rs).length := List.length_filter_le _ _
  have h2 := brsTo_len rs rs.length
  have h3 : (brs rs).length = (brsTo rs rs.length).length := rfl
  omega
theorem brs_len (rs : List Row) : (brs rs).length ≤ rs.length := brsTo_len rs rs.length
theorem inn_nodup (rs : List Row) : (inn rs).Nodup := by
  rw [← brs_inn]
  exact List.Nodup.sublist (List.filter_sublist ..) (brs_nodup rs)
theorem nats_sq {K : PySem.W.Frag} {H : Hp} {a : Addr} {ks : List Nat} (h : SqL K H a (nats ks)) : SqL K H a ((ks.map fun (k : Nat) => (k : Int)).map V.int) := by
  rw [← nats_int]
  exact h
theorem nats_get {ks : List Nat} {i : Nat} {z : V} (h : (nats ks)[i]? = some z) : ∃ k, ks[i]? = some k ∧ z = V.int ((k : Nat) : Int) := by
  unfold nats at h
  rw [List.getElem?_map] at h
  cases e : ks[i]? with
  | none => rw [e] at h; cases h
  | some k => rw [e] at h; exact ⟨k, rfl, (Option.some.inj h).symm⟩
theorem long_len (f : Int → Bool) (rs : List Row) : (long f rs).length ≤ rs.length := by
  unfold long
  exact Nat.le_trans (List.length_filter_le _ _) (inn_len rs)
/-- the far branches after n turns -/
def fars (rs : List Row) : Nat → List Nat
  | 0 => []
  | n + 1 => fars rs n ++ long (fN (outs rs ++ fars rs n)) rs
theorem fars_stop {rs : List Row} {n : Nat} (h : long (fN (outs rs ++ fars rs n)) rs = []) : ∀ m, fars rs (n + m) = fars rs n
  | 0 => rfl
  | m + 1 => by
    show fars rs (n + m) ++ long (fN (outs rs ++ fars rs (n + m))) rs = _
    rw [fars_stop h m, h, List.append_nil]
theorem fars_end {rs : List Row} {n m : Nat} (hn : long (fN (outs rs ++ fars rs n)) rs = []) (hm : long (fN (outs rs ++ fars rs m)) rs = []) : fars rs n = fars rs m := by
  rcases Nat.le_total n m with h | h
  · obtain ⟨d, rfl⟩ := Nat.exists_eq_add_of_le h
    exact (fars_stop hn d).symm
  · obtain ⟨d, rfl⟩ := Nat.exists_eq_add_of_le h
    exact fars_stop hm d
/-- such a list of far branches as the law grows: in order, those that lead out and those of n turns -/
def Grown (rs : List Row) (g : List Int) : Prop := ∃ n, g.Perm (zs (outs rs ++ fars rs n)) ∧ g.Pairwise (· ≤ ·) ∧ long (fN (outs rs ++ fars rs n)) rs = []
theorem mem_perm {a b : List Int} (h : a.Perm b) : mem a = mem b := by
  funext k
  unfold mem
  by_cases c : k ∈ a
  · rw [decide_eq_true c, decide_eq_true (h.mem_iff.mp c)]
  · rw [decide_eq_false c, decide_eq_false fun z => c (h.mem_iff.mpr z)]
theorem fN_mem2 (ks : List Nat) : fN ks = mem (zs ks) := rfl
theorem outs_sorted (rs : List Row) : (zs (outs rs)).Pairwise (· ≤ ·) := by
  unfold zs outs brs brsTo
  rw [List.pairwise_map]
  refine List.Pairwise.sublist (List.Sublist.trans (List.filter_sublist ..) (List.filter_sublist ..)) ?_
  exact List.pairwise_lt_range.imp fun h => by omega
theorem inn_sorted (rs : List Row) : (inn rs).Pairwise (· < ·) := by
  unfold inn innTo
  exact List.Pairwise.sublist (List.filter_sublist ..) List.pairwise_lt_range
theorem long_sub {f : Int → Bool} {rs : List Row} {k : Nat} (h : k ∈ long f rs) : k ∈ inn rs ∧ f (k : Nat) = false ∧ tooL (way f rs k) = true := by
  unfold long isLong at h
  obtain ⟨h1, h2⟩ := List.mem_filter.mp h
  rw [Bool.and_eq_true] at h2
  exact ⟨h1, by simpa using h2.1, h2.2⟩
theorem inn_not_outs {rs : List Row} {k : Nat} (h : k ∈ inn rs) : k ∉ outs rs := by
  intro z
  rw [← brs_inn] at h
  have h1 := (List.mem_filter.mp h).2
  have h2 := (List.mem_filter.mp z).2
  cases e : aim rs k with
  | none => rw [e] at h1; cases h1
  | some j => rw [e] at h2; cases h2
theorem fars_inn (rs : List Row) : ∀ n, ∀ k ∈ fars rs n, k ∈ inn rs
  | 0, k, h => by cases h
  | n + 1, k, h => by
    rcases List.mem_append.mp h with h | h
    · exact fars_inn rs n k h
    · exact (long_sub h).1
theorem fars_nodup (rs : List Row) : ∀ n, (fars rs n).Nodup
  | 0 => List.nodup_nil
  | n + 1 => by
    refine List.nodup_append.mpr ⟨fars_nodup rs n, ?_, fun a ha b hb e => ?_⟩
    · unfold long
      exact List.Nodup.sublist (List.filter_sublist ..) (inn_nodup rs)
    · have := (long_sub hb).2.1
      rw [fN_mem] at this
      exact of_decide_eq_false this (List.mem_append_right _ (by rw [← e]; exact ha))
theorem fars_rem (rs : List Row) : ∀ n, (fars rs n).length + (rem rs (fars rs n)).length = (rem rs []).length
  | 0 => by simp [fars]
  | n + 1 => by
    have h := rem_next rs (fars rs n)
    have ih := fars_rem rs n
    show (fars rs n ++ long (fN (outs rs ++ fars rs n)) rs).length + (rem rs (fars rs n ++ long (fN (outs rs ++ fars rs n)) rs)).length = _
    rw [List.length_append]
    omega
theorem fars_len (rs : List Row) (n : Nat) : (fars rs n).length ≤ (inn rs).length := by
  have h := fars_rem rs n
  have h1 : (rem rs []).length ≤ (inn rs).length := List.length_filter_le _ _
  omega
theorem grown_len {rs : List Row} {g : List Int} (h : Grown rs g) : g.length ≤ rs.length + rs.length := by
  obtain ⟨n, pm, _, _⟩ := h
  have h1 := fars_len rs n
  have h2 := inn_len rs
  have h3 := outs_len rs
  rw [pm.length_eq, zs_len, List.length_append]
  omega
theorem sorted_perm {a b : List Int} (h : a.Perm b) (ha : a.Pairwise (· ≤ ·)) (hb : b.Pairwise (· ≤ ·)) : a = b := h.eq_of_pairwise (fun x y _ _ h1 h2 => Int.le_antisymm h1 h2) ha hb
theorem grown_one {rs : List Row} {a b : List Int} (ha : Grown rs a) (hb : Grown rs b) : a = b := by
  obtain ⟨n, p1, s1, e1⟩ := ha
  obtain ⟨m, p2, s2, e2⟩ := hb
  rw [fars_end e1 e2] at p1
  exact sorted_perm (p1.trans p2.symm) s1 s2

/-! ### rows as they are handed in -/
abbrev RowC := Row
abbrev rsC (rcs : List Row) : List Row := rcs
def rowR : Row → PyData
  | .words ws => .tuple [.str "words", .list (ws.map rawD)]
  | .label s => .tuple [.str "label", .str s]
  | .even n => .tuple [.str "even", .int n]
  | .branch c n m => .tuple [.str "branch", .str c, .str n, .int m]
theorem dp_str {K : PySem.W.Frag} {H : Hp} {v : V} {x : Str} (h : Dp K H v (.str x)) : v = .str x := by cases h; rfl
theorem dp_tup {K : PySem.W.Frag} {H : Hp} {v : V} {ds : List PyData} (h : Dp K H v (.tuple ds)) : ∃ a xs, v = .ref a ∧ SqT K H a xs ∧ DpAll K H xs ds := by
  cases h with
  | tup h1 h2 => exact ⟨_, _, rfl, h1, h2⟩
theorem dp_lst {K : PySem.W.Frag} {H : Hp} {v : V} {ds : List PyData} (h : Dp K H v (.list ds)) : ∃ a xs, v = .ref a ∧ SqL K H a xs ∧ DpAll K H xs ds := by
  cases h with
  | lst h1 h2 => exact ⟨_, _, rfl, h1, h2⟩
theorem dp_two {K : PySem.W.Frag} {H : Hp} {v : V} {k : Str} {d : PyData} (h : Dp K H v (.tuple [.str k, d])) : ∃ a y, v = .ref a ∧ SqT K H a [.str k, y] ∧ Dp K H y d := by
  obtain ⟨a, xs, rfl, h1, h2⟩ := dp_tup h
  cases h2 with
  | cons g1 g2 =>
    cases g2 with
    | cons g3 g4 =>
      cases g4
      cases dp_str g1
      exact ⟨a, _, rfl, h1, g3⟩
theorem dpR_rowL {K : PySem.W.Frag} {H : Hp} {v : V} {r : Row} (h : Dp K H v (rowR r)) : RowL K H v r := by
  cases r with
  | words ws =>
    obtain ⟨a, y, rfl, h1, h2⟩ := dp_two h
    obtain ⟨b, xs, rfl, h3, h4⟩ := dp_lst h2
    exact ⟨a, b, xs, rfl, h1, h3, h4⟩
  | label s =>
    obtain ⟨a, y, rfl, h1, h2⟩ := dp_two h
    cases dp_str h2
    exact ⟨a, rfl, h1⟩
  | even n =>
    obtain ⟨a, y, rfl, h1, h2⟩ := dp_two h
    cases dp_int h2
    exact ⟨a, rfl, h1⟩
  | branch c n m =>
    obtain ⟨a, xs, rfl, h1, h2⟩ := dp_tup h
    cases h2 with
    | cons g1 h2 => cases h2 with
      | cons g2 h2 => cases h2 with
        | cons g3 h2 => cases h2 with
          | cons g4 h2 =>
            cases h2
            cases dp_str g1
            cases dp_str g2
            cases dp_str g3
            cases dp_int g4
            exact ⟨a, rfl, h1⟩
theorem datR_rowsL {K : PySem.W.Frag} {H : Hp} : ∀ {xs : List V} {rs : List Row}, DpAll K H xs (rs.map rowR) → RowsL K H xs rs
  | _, [], h => by cases h; exact .nil
  | _, r :: rs, h => by
    cases h with
    | cons h1 h2 => exact .cons (dpR_rowL h1) (datR_rowsL h2)
theorem dps_app {K : PySem.W.Frag} {H : Hp} : ∀ {xs ys : List V} {ds es : List PyData}, DpAll K H xs ds → DpAll K H ys es → DpAll K H (xs ++ ys) (ds ++ es)
  | _, _, _, _, .nil, h => h
  | _, _, _, _, .cons x t, h => .cons x (dps_app t h)
theorem dps_take {K : PySem.W.Frag} {H : Hp} : ∀ {xs : List V} {ds : List PyData} (n : Nat), DpAll K H xs ds → DpAll K H (xs.take n) (ds.take n)
  | _, _, 0, _ => .nil
  | _, _, _ + 1, .nil => .nil
  | _, _, n + 1, .cons h t => .cons h (dps_take n t)
theorem dps_drop {K : PySem.W.Frag} {H : Hp} : ∀ {xs : List V} {ds : List PyData} (n : Nat), DpAll K H xs ds → DpAll K H (xs.drop n) (ds.drop n)
  | _, _, 0, h => h
  | _, _, _ + 1, .nil => .nil
  | _, _, n + 1, .cons h t => dps_drop n t
def isEv (rs : List Row) (i : Nat) : Bool := match rs[i]? with
  | some (.even _) => true
  | _ => false
def noEven (rs : List Row) : Prop := ∀ i, isEv rs i = false
/-- at i stands the first even row -/
def firstEv (rs : List Row) (i : Nat) : Prop := isEv rs i = true ∧ ∀ j, j < i → isEv rs j = false
theorem ev_kind (r : Row) : decide (kindOf r = ("even" : Str)) = (match r with | .even _ => true | _ => false) := by
  cases r with
  | label s => exact (by decide +kernel : decide (("label" : Str) = "even") = false)
  | words n => exact (by decide +kernel : decide (("words" : Str) = "even") = false)
  | even n => exact (by decide +kernel : decide (("even" : Str) = "even") = true)
  | branch c n m => exact (by decide +kernel : decide (("branch" : Str) = "even") = false)
theorem isEv_at {rs : List Row} {i : Nat} {r : Row} (h : rs[i]? = some r) : isEv rs i = match r with
    | .even _ => true
    | _ => false := by
  have e : isEv rs i = (match some r with | some (.even _) => true | _ => false) := by
    rw [← h]
    rfl
  rw [e]
  cases r <;> rfl

/-! ### what drafts are drawn -/
def labs4 : List Str := ["la", "lb", "lc", "ld"]
def nmL : List Str := ["la", "lb", "lc", "ld", "away"]
def RowG : Row → Prop
  | .words ws => ws.length ≤ 255 ∧ ∀ w ∈ ws, ∃ k, w = .num k
  | .label s => s ∈ labs4
  | .even n => 1 ≤ n ∧ n ≤ 64
  | .branch c n m => c ∈ nearL ∧ n ∈ nmL ∧ (m ≠ 0 → n = "away")
structure DraftG (rs : List Row) : Prop where
  rows : ∀ r ∈ rs, RowG r
  nod : (rs.filterMap labR).Nodup
  len : rs.length ≤ 20
theorem labs4_nm : ∀ s ∈ labs4, isNmS s = true ∧ s.length ≤ 1000 ∧ s ≠ "away" := by decide +kernel
theorem nmL_nm : ∀ s ∈ nmL, isNmS s = true ∧ s.length ≤ 1000 := by decide +kernel
theorem labR_some {r : Row} {s : Str} (h : labR r = some s) : r = .label s := by
  cases r <;> cases h
  rfl
theorem labOf_some {rs : List Row} {i : Nat} {s : Str} (h : labOf rs i = some s) : rs[i]? = some (.label s) := by
  cases e : rs[i]? with
  | none =>
    unfold labOf at h
    rw [e] at h
    cases h
  | some r =>
    rw [labOf_at e] at h
    rw [labR_some h]
theorem G_ok {rs : List Row} (h : DraftG rs) : DrOk rs := by
  refine ⟨fun r hr => ?_, by have := h.len; omega, fun i s hi j hj hjs => ?_, fun k c n m hk hm j hj => ?_⟩
  · have g := h.rows r hr
    cases r with
    | words ws => exact (by
        have g' : ws.length ≤ 255 ∧ ∀ w ∈ ws, ∃ k, w = .num k := g
        exact ⟨by omega, fun w hw => by
          obtain ⟨k, rfl⟩ := g'.2 w hw
          trivial⟩)
    | label s =>
      obtain ⟨a, b, _⟩ := labs4_nm s g
      exact ⟨a, b⟩
    | even n => exact g
    | branch c n m =>
      obtain ⟨a, b⟩ := nmL_nm n g.2.1
      exact ⟨g.1, a, b⟩
  · have h1 := labOf_some hi
    have h2 := labOf_some hjs
    have l1 : i < rs.length := (List.getElem?_eq_some_iff.mp h1).1
    have pw := List.pairwise_filterMap.mp h.nod
    have := List.pairwise_iff_getElem.mp pw j i (by omega) l1 hj
    have e1 : rs[i] = .label s := Option.some.inj (by rw [← List.getElem?_eq_getElem l1]; exact h1)
    have e2 : rs[j] = .label s := Option.some.inj (by rw [← List.getElem?_eq_getElem (by omega)]; exact h2)
    rw [e1, e2] at this
    exact this s rfl s rfl rfl
  · have g := h.rows _ (List.mem_of_getElem? hk)
    have e : n = "away" := g.2.2 hm
    have g2 := h.rows _ (List.mem_of_getElem? (labOf_some hj))
    exact (labs4_nm n g2).2.2 e
theorem G_ins {rs : List Row} {r : Row} (i : Nat) (h : DraftG rs) (hr : RowG r) (hl : rs.length < 20) (hn : ∀ s, labR r = some s → s ∉ rs.filterMap labR) : DraftG (rs.take i ++ [r] ++ rs.drop i) := by
  have pm : (rs.take i ++ [r] ++ rs.drop i).Perm (r :: rs) := by
    have : (rs.take i ++ [r] ++ rs.drop i).Perm ([r] ++ rs.take i ++ rs.drop i) := List.Perm.append_right _ List.perm_append_comm
    refine this.trans ?_
    rw [List.append_assoc, List.take_append_drop]
    exact List.Perm.refl _
  refine ⟨fun x hx => ?_, ?_, ?_⟩
  · rcases List.mem_cons.mp (pm.mem_iff.mp hx) with z | z
    · rw [z]; exact hr
    · exact h.rows x z
  · refine (pm.filterMap labR).nodup_iff.mpr ?_
    rw [List.filterMap_cons]
    cases e : labR r with
    | none => exact h.nod
    | some s => exact List.nodup_cons.mpr ⟨hn s e, h.nod⟩
  · rw [pm.length_eq, List.length_cons]
    omega
/-- which rows an inserted one stands among -/
theorem ins_perm {α : Type} (l : List α) (i : Nat) (x : α) : (l.take i ++ [x] ++ l.drop i).Perm (x :: l) := by
  have : (l.take i ++ [x] ++ l.drop i).Perm ([x] ++ l.take i ++ l.drop i) := List.Perm.append_right _ List.perm_append_comm
  refine this.trans ?_
  rw [List.append_assoc, List.take_append_drop]
  exact List.Perm.refl _
theorem dps_ins {K : PySem.W.Frag} {H : Hp} {xs : List V} {rcs : List RowC} {v : V} {rc : RowC} (i : Nat) (h : DpAll K H xs (rcs.map rowR)) (hv : Dp K H v (rowR rc)) : DpAll K H (xs.take i ++ [v] ++ xs.drop i) ((rcs.take i ++ [rc] ++ rcs.drop i).map rowR) := by
  rw [List.map_append, List.map_append, List.map_take, List.map_drop]
  exact dps_app (dps_app (dps_take i h) (.cons hv .nil)) (dps_drop i h)
theorem rsC_ins (rcs : List RowC) (i : Nat) (rc : RowC) : rsC (rcs.take i ++ [rc] ++ rcs.drop i) = (rsC rcs).take i ++ [rc] ++ (rsC rcs).drop i := rfl
theorem dpR_rowV {K : PySem.W.Frag} {H : Hp} {v : V} {rc : RowC} (h : Dp K H v (rowR rc)) : RowV K H v rc := rowL_V (dpR_rowL h)
theorem datR_rows {K : PySem.W.Frag} {H : Hp} {xs : List V} {rcs : List RowC} (h : DpAll K H xs (rcs.map rowR)) : RowsV K H xs (rsC rcs) := rowsL_V (datR_rowsL h)
theorem atEv {d : Int} (h0 : 0 ≤ d) (h1 : d < 12) : ∃ n : Int, 1 ≤ n ∧ n ≤ 64 ∧ atI ([1, 2, 3, 4, 5, 8, 16, 32, 40, 64, 7, 63].map V.int) d = some (.int n) := by
  obtain ⟨n, rfl⟩ := Int.eq_ofNat_of_zero_le h0
  have hn : n < 12 := by omega
  have : ∀ n, n < 12 → ∃ w : Int, 1 ≤ w ∧ w ≤ 64 ∧ ([1, 2, 3, 4, 5, 8, 16, 32, 40, 64, 7, 63] : List Int)[n]? = some w := by
    intro n hn
    match n, hn with
    | 0, _ => exact ⟨1, by omega, by omega, rfl⟩
    | 1, _ => exact ⟨2, by omega, by omega, rfl⟩
    | 2, _ => exact ⟨3, by omega, by omega, rfl⟩
    | 3, _ => exact ⟨4, by omega, by omega, rfl⟩
    | 4, _ => exact ⟨5, by omega, by omega, rfl⟩
    | 5, _ => exact ⟨8, by omega, by omega, rfl⟩
    | 6, _ => exact ⟨16, by omega, by omega, rfl⟩
    | 7, _ => exact ⟨32, by omega, by omega, rfl⟩
    | 8, _ => exact ⟨40, by omega, by omega, rfl⟩
    | 9, _ => exact ⟨64, by omega, by omega, rfl⟩
    | 10, _ => exact ⟨7, by omega, by omega, rfl⟩
    | 11, _ => exact ⟨63, by omega, by omega, rfl⟩
  obtain ⟨w, h1, h2, e⟩ := this n hn
  exact ⟨w, h1, h2, at_of (by rw [List.getElem?_map, e]; rfl)⟩
/-! ### the sizes drawn -/
def szD : List Int := [8] ++ (List.replicate 10 [8, 12, 5, 3]).flatten ++ (List.replicate 4 [11]).flatten
theorem szD_ok : SizesOk szD := ⟨by decide, by decide⟩
theorem szD_at : ∀ k, k < 10 → szD[1 + 4 * k]? = some 8 ∧ szD[2 + 4 * k]? = some 12 ∧ szD[3 + 4 * k]? = some 5 ∧ szD[4 + 4 * k]? = some 3 := by decide
theorem szD_end : ∀ i, i < 4 → szD[41 + i]? = some 11 := by decide
theorem cut4 {out : List Int} {k : Nat} {a b c d : Int} (hl : out.length = 45) (hk : k < 10) (h1 : out[1 + 4 * k]? = some a) (h2 : out[2 + 4 * k]? = some b) (h3 : out[3 + 4 * k]? = some c) (h4 : out[4 + 4 * k]? = some d) :
    cutV (out.map V.int) (some (1 + 4 * (k : Int))) (some (5 + 4 * (k : Int))) = [.int a, .int b, .int c, .int d] := by
  have e1 : HT.sIx (out.map V.int).length 0 (some (1 + 4 * (k : Int))) = 1 + 4 * k := by
    rw [List.length_map, hl]
    unfold HT.sIx
    dsimp only
    rw [if_neg (by omega)]
    omega
  have e2 : HT.sIx (out.map V.int).length (out.map V.int).length (some (5 + 4 * (k : Int))) = 5 + 4 * k := by
    rw [List.length_map, hl]
    unfold HT.sIx
    dsimp only
    rw [if_neg (by omega)]
    omega
  unfold cutV
  rw [e1, e2]
  have e3 : 5 + 4 * k - (1 + 4 * k) = 4 := by omega
  rw [e3]
  apply List.ext_getElem?
  intro i
  rw [List.getElem?_take, List.getElem?_drop, List.getElem?_map]
  match i with
  | 0 => simp [h1]
  | 1 => rw [if_pos (by omega), show 1 + 4 * k + 1 = 2 + 4 * k by omega, h2]; rfl
  | 2 => rw [if_pos (by omega), show 1 + 4 * k + 2 = 3 + 4 * k by omega, h3]; rfl
  | 3 => rw [if_pos (by omega), show 1 + 4 * k + 3 = 4 + 4 * k by omega, h4]; rfl
  | i + 4 => rw [if_neg (by omega)]; rfl
theorem at12 {d : Int} (h0 : 0 ≤ d) (h1 : d < 12) : ∃ w : Nat, w ≤ 255 ∧ atI ([0, 1, 2, 3, 40, 120, 127, 128, 250, 253, 254, 255].map V.int) d = some (.int (w : Int)) := by
  obtain ⟨n, rfl⟩ := Int.eq_ofNat_of_zero_le h0
  have hn : n < 12 := by omega
  have : ∀ n, n < 12 → ∃ w : Nat, w ≤ 255 ∧ ([0, 1, 2, 3, 40, 120, 127, 128, 250, 253, 254, 255] : List Int)[n]? = some (w : Int) := by
    intro n hn
    match n, hn with
    | 0, _ => exact ⟨0, by omega, rfl⟩
    | 1, _ => exact ⟨1, by omega, rfl⟩
    | 2, _ => exact ⟨2, by omega, rfl⟩
    | 3, _ => exact ⟨3, by omega, rfl⟩
    | 4, _ => exact ⟨40, by omega, rfl⟩
    | 5, _ => exact ⟨120, by omega, rfl⟩
    | 6, _ => exact ⟨127, by omega, rfl⟩
    | 7, _ => exact ⟨128, by omega, rfl⟩
    | 8, _ => exact ⟨250, by omega, rfl⟩
    | 9, _ => exact ⟨253, by omega, rfl⟩
    | 10, _ => exact ⟨254, by omega, rfl⟩
    | 11, _ => exact ⟨255, by omega, rfl⟩
  obtain ⟨w, hw, e⟩ := this n hn
  exact ⟨w, hw, at_of (by rw [List.getElem?_map, e]; rfl)⟩
theorem atStr {ss : List Str} {d : Int} (h0 : 0 ≤ d) (h1 : d < (ss.length : Int)) : ∃ s ∈ ss, atI (ss.map V.str) d = some (.str s) := by
  obtain ⟨n, rfl⟩ := Int.eq_ofNat_of_zero_le h0
  have hn : n < ss.length := by omega
  exact ⟨ss[n], List.getElem_mem hn, at_of (by rw [List.getElem?_map, List.getElem?_eq_getElem hn]; rfl)⟩

def RowN (ev : Bool) : Row → Prop
  | .words ws => ws.length ≤ 255 ∧ ∀ w ∈ ws, ∃ k, w = .num k
  | .branch c n m => c ∈ nearL ∧ n ∈ nmL ∧ (m ≠ 0 → n = "away")
  | .even n => ev = true ∧ 1 ≤ n ∧ n ≤ 64
  | _ => False
theorem N_G {ev : Bool} {rs : List Row} (h : ∀ r ∈ rs, RowN ev r) (hl : rs.length ≤ 20) : DraftG rs ∧ rs.filterMap labR = [] ∧ (ev = false → noEven rs) := by
  have e : rs.filterMap labR = [] := by
    rw [List.filterMap_eq_nil_iff]
    intro r hr
    have := h r hr
    cases r with
    | words n => rfl
    | branch c n m => rfl
    | even n => rfl
    | label s => exact absurd this id
  refine ⟨⟨fun r hr => ?_, by rw [e]; exact List.nodup_nil, hl⟩, e, fun ee i => ?_⟩
  · have := h r hr
    cases r with
    | words n => exact this
    | branch c n m => exact this
    | even n => exact this.2
    | label s => exact absurd this id
  · unfold isEv
    split
    · rename_i n z
      have := (h _ (List.mem_of_getElem? z)).1
      rw [ee] at this
      cases this
    · rfl
def isEvR : Row → Bool
  | .even _ => true
  | _ => false
theorem noEven_iff {rs : List Row} : noEven rs ↔ ∀ r ∈ rs, isEvR r = false := by
  constructor
  · intro h r hr
    obtain ⟨i, hi⟩ := List.getElem?_of_mem hr
    have := h i
    unfold isEv at this
    rw [hi] at this
    cases r <;> first | rfl | cases this
  · intro h i
    unfold isEv
    split
    · rename_i n e
      have := h _ (List.mem_of_getElem? e)
      cases this
    · rfl
theorem els1 {b : Bool} {S A C : Prop} (c : C) (h : b = true → C → S) : if b = true then S else (if false = true then A else C) := by
  cases b with
  | true => exact h rfl c
  | false => exact c
abbrev sLDraft : Stmt := topS 56
abbrev NLD : List Str := ["cell", "most", "is_even", "draws", "rows", "wide", "k", "kind", "size", "name", "called", "more", "at", "label"]
theorem scLDraft : FnScope NLD ["cell", "most", "is_even"] (defScope sLDraft) := ⟨rfl, rfl, rfl, by decide +kernel, rfl, by decide +kernel, by decide +kernel⟩
def spLDraft (K : PySem.W.Frag) : Sp := fun vs H Q _ => ∃ (n : Int) (ev : Bool), vs = [.int n, .int 9, .bl ev] ∧ ∀ H' p xs rcs, Same H H' → H p = none → H' p = some (.lst xs) → DpAll K H' xs (rcs.map rowR) → DraftG (rsC rcs) → (ev = false → noEven (rsC rcs)) → (∀ z ∈ labs4, z ∈ (rsC rcs).filterMap labR) → rcs.length ≤ 13 → Q (.ref p) H'
theorem labs4_inj : ∀ i, i < 4 → ∀ j, j < i → labs4[j]? ≠ labs4[i]? := by decide +kernel
section
variable {P : Program} {w : World} {K : PySem.W.Frag} {mg : Str → Option Value} {base : Heap}
theorem ok_ldraft {f : Addr} {fd : FuncData} (F : Fun K "_law_draft" "_law_draft" sLDraft f fd) (T : Bi mg) (G : Has P w K mg base CX0 1 "_law_row" ["cell", "sizes"] (spLRow K)) : FnOk P w K mg base CX0 2 f fd ["cell", "most", "is_even"] (spLDraft K) := by
  refine F.ok scLDraft (fun vs H Q E h => ?_) (fun cdv A outer s H vs Q E hr h => ?_)
  · obtain ⟨n, ev, rfl, _⟩ := h
    rfl
  · obtain ⟨n, ev, rfl, q⟩ := h
    refine ⟨_, (pss_cons (ps_par3 rfl scLDraft.nd (i := 3) (j := 4) (l := 5) rfl rfl rfl (by decide) (by decide) (by decide) rfl rfl rfl (pa_cons (pe_callH G hr (by rfl) pass0 (pa_cons (pv 0) (pa_cons (pe_op op_cat (pe_op op_cat (pe_lst (pa_cons pe_int pa_nil)) (pe_op op_rep (pe_lst (pa_cons pe_int (pa_cons pe_int (pa_cons pe_int (pa_cons pe_int pa_nil))))) pe_int)) (pe_op op_rep (pe_lst (pa_cons pe_int pa_nil)) pe_int)) pa_nil))) (pa_cons (pe_lst pa_nil) (pa_cons pe_int pa_nil))) (by rfl))
      (pss_cons (ps_for PassesOwn.never rfl (pi_range1 (by rfl) T.range (pa_cons (pe_callB (call_min2 rfl) (by rfl) T.min (by decide +kernel) (pa_cons (pe_op op_add pe_int (pe_ix ix_list (pv 3) pe_int (fun _ _ => rfl))) (pa_cons (pv 1) pa_nil))) pa_nil)) (pg_name (i := 6) scLDraft.nd rfl (.inl rfl)) (pss_cons (ps_asg (pe_slice sl_list (pv 3) (po_some (pe_op op_add pe_int (pe_op op_mul pe_int (pv 6)))) (po_some (pe_op op_add pe_int (pe_op op_mul pe_int (pv 6))))) (pg_lst rfl (pgs_cons (pg_name (i := 7) scLDraft.nd rfl (.inl rfl)) (pgs_cons (pg_name (i := 8) scLDraft.nd rfl (.inl rfl)) (pgs_cons (pg_name (i := 9) scLDraft.nd rfl (.inl rfl)) (pgs_cons (pg_name (i := 10) scLDraft.nd rfl (.inl rfl)) pgs_nil))))))
        (pss_one (ps_if (PW.pt (pw_and (pt_cmpR op_lt (pv 7) pe_int (nomark _)) (pw_and1 (pt_cmpR op_lt (pv 5) pe_int (nomark _))))) (pss_cons (ps_set (i := 5) scLDraft.nd rfl (.inl rfl) (pe_op op_add (pv 5) pe_int))
          (pss_one (ps_expr (pe_bm PySem.F.plainAttrs_list PySem.F.slot_list_append PySem.F.type_list_append mt_append (pv 4) (pa_cons (pe_tup (pa_cons pe_str (pa_cons (pe_op op_rep (pe_lst (pa_cons (pv 6) pa_nil)) (pe_ix ix_list (pe_lst (pa_cons pe_int (pa_cons pe_int (pa_cons pe_int (pa_cons pe_int (pa_cons pe_int (pa_cons pe_int (pa_cons pe_int (pa_cons pe_int (pa_cons pe_int (pa_cons pe_int (pa_cons pe_int (pa_cons pe_int pa_nil))))))))))))) (pv 8) (fun _ _ => rfl))) pa_nil))) pa_nil))))) (pss_one (ps_if (PW.pt (pw_and (pt_cmpR op_eq (pv 7) pe_int (nomark _)) (pw_and1 (pt_val (pv 2))))) (pss_one (ps_expr (pe_bm PySem.F.plainAttrs_list PySem.F.slot_list_append PySem.F.type_list_append mt_append (pv 4) (pa_cons (pe_tup (pa_cons pe_str (pa_cons (pe_ix ix_list (pe_lst (pa_cons pe_int (pa_cons pe_int (pa_cons pe_int (pa_cons pe_int (pa_cons pe_int (pa_cons pe_int (pa_cons pe_int (pa_cons pe_int (pa_cons pe_int (pa_cons pe_int (pa_cons pe_int (pa_cons pe_int pa_nil))))))))))))) (pv 8) (fun _ _ => rfl)) pa_nil))) pa_nil)))) (pss_cons (ps_set (i := 11) scLDraft.nd rfl (.inl rfl) (pe_ifExp (pt_cmpR op_eq (pv 9) pe_int (nomark _)) (pe_ix ix_list (pe_lst (pa_cons pe_int (pa_cons pe_int (pa_cons (pe_un un_neg pe_int) pa_nil)))) (pv 10) (fun _ _ => rfl)) pe_int))
          (pss_one (ps_expr (pe_bm PySem.F.plainAttrs_list PySem.F.slot_list_append PySem.F.type_list_append mt_append (pv 4) (pa_cons (pe_tup (pa_cons pe_str (pa_cons (pe_ix ix_list (pe_lst (pa_cons pe_str (pa_cons pe_str (pa_cons pe_str pa_nil)))) (pv 10) (fun _ _ => rfl)) (pa_cons (pe_ix ix_list (pe_lst (pa_cons pe_str (pa_cons pe_str (pa_cons pe_str (pa_cons pe_str (pa_cons pe_str pa_nil)))))) (pv 9) (fun _ _ => rfl)) (pa_cons (pv 11) pa_nil))))) pa_nil)))))))))))
      (pss_cons (ps_for PassesOwn.never rfl (pi_zip (by rfl) T.zip (pa_cons (pe_slice sl_list (pv 3) (po_some pe_int) po_none) (pa_cons (pe_lst (pa_cons pe_str (pa_cons pe_str (pa_cons pe_str (pa_cons pe_str pa_nil))))) pa_nil))) (pg_tup rfl (pgs_cons (pg_name (i := 12) scLDraft.nd rfl (.inl rfl)) (pgs_cons (pg_name (i := 13) scLDraft.nd rfl (.inl rfl)) pgs_nil)))
        (pss_one (ps_expr (pe_bm PySem.F.plainAttrs_list PySem.F.slot_list_insert PySem.F.type_list_insert mt_insert (pv 4) (pa_cons (pe_op op_mod (pv 12) (pe_op op_add (pe_callB call_len_seq (by rfl) T.len (by decide +kernel) (pa_cons (pv 4) pa_nil)) pe_int)) (pa_cons (pe_tup (pa_cons pe_str (pa_cons (pv 13) pa_nil))) pa_nil))))))
      (pss_one (ps_ret (pv 4)))))), ?_⟩
    refine ⟨_, rfl, (by show 1 ≤ sizeLine; decide), fun p1 hp1 => ⟨(by show 4 ≤ sizeLine; decide), fun p2 hp2 => ?_⟩⟩
    have n12 : p1 ≠ p2 := ne_of_none upd_same hp2
    refine ⟨p2, 10, _, rfl, rfl, upd_same, by decide, by decide, (by show 4 * 10 ≤ sizeLine; decide), fun p3 hp3 => ?_⟩
    have n13 : p1 ≠ p3 := ne_of_none (by rw [upd_ne n12]; exact upd_same) hp3
    refine ⟨p1, p3, _, _, rfl, rfl, by rw [upd_ne n13, upd_ne n12]; exact upd_same, upd_same, (by show 41 ≤ sizeLine; decide), fun p4 hp4 => ⟨(by show 1 ≤ sizeLine; decide), fun p5 hp5 => ?_⟩⟩
    have n45 : p4 ≠ p5 := ne_of_none upd_same hp5
    refine ⟨p5, 4, _, rfl, rfl, upd_same, by decide, by decide, (by show 1 * 4 ≤ sizeLine; decide), fun p6 hp6 => ?_⟩
    have n46 : p4 ≠ p6 := ne_of_none (by rw [upd_ne n45]; exact upd_same) hp6
    refine ⟨p4, p6, _, _, rfl, rfl, by rw [upd_ne n46, upd_ne n45]; exact upd_same, upd_same, (by show 45 ≤ sizeLine; decide), fun p7 hp7 => ?_⟩
    have t1 := same_new (o := .lst [V.int 8]) hp1
    have t2 := t1.trans (same_new (o := .lst ([8, 12, 5, 3].map V.int)) hp2)
    have t3 := t2.trans (same_new (o := .lst (List.replicate 10 ([8, 12, 5, 3].map V.int)).flatten) hp3)
    have t4 := t3.trans (same_new (o := .lst ([V.int 8] ++ (List.replicate 10 ([8, 12, 5, 3].map V.int)).flatten)) hp4)
    have t5 := t4.trans (same_new (o := .lst [V.int 11]) hp5)
    have t6 := t5.trans (same_new (o := .lst (List.replicate 4 [V.int 11]).flatten) hp6)
    have t7 := t6.trans (same_new (o := .lst (szD.map V.int)) hp7)
    refine ⟨n, p7, szD, rfl, SqL.of (by rw [upd_same]; rfl), szD_ok, fun H1 D out s1 hDn hD1 dr => ⟨Nat.zero_le _, fun L hL => ⟨_, _, _, rfl, ?_⟩⟩⟩
    have t8 : Same H H1 := t7.trans s1
    have t9 := t8.trans (same_new (o := .lst []) hL)
    have hLn : H L = none := by
      cases e : H L with
      | none => rfl
      | some u => rw [t8 _ _ e] at hL; cases hL
    have nDL : D ≠ L := ne_of_none hD1 hL
    generalize hH0 : upd H1 L (.lst []) = H0 at t9
    have hD0 : H0 D = some (.lst (out.map V.int)) := by rw [← hH0, upd_ne nDL]; exact hD1
    have hL0 : H0 L = some (.lst []) := by rw [← hH0]; exact upd_same
    have ol : out.length = 45 := dr.1
    have at_out : ∀ {i : Nat} {z : Int}, szD[i]? = some z → ∃ d, out[i]? = some d ∧ 0 ≤ d ∧ d < z := fun {i z} h => dr.2 i z h
    obtain ⟨d0, e0, d0a, d0b⟩ := at_out (i := 0) (z := 8) rfl
    refine ⟨_, rfl, D, _, _, _, rfl, rfl, SqL.of hD0, at_of (i := 0) (by rw [List.getElem?_map, e0]; rfl), _, _, rfl, rfl, _, rfl, _, _, rfl, _, rfl, ?_⟩
    generalize hj : (if (9 : Int) < 2 + d0 then (9 : Int) else 2 + d0) = j
    have j1 : 0 ≤ j ∧ j ≤ 9 := by
      rw [← hj]
      split <;> omega
    refine ⟨by omega, by omega, ?_⟩
    obtain ⟨m, rfl⟩ := Int.eq_ofNat_of_zero_le j1.1
    rw [Int.toNat_natCast]
    have hm9 : m ≤ 9 := by omega
    refine for_it walk_range (fun i σ H4 => ∃ (w : Int) (a b c d e g : Option V) (xs : List V) (rcs : List RowC), σ = [some (.int n), some (.int 9), some (.bl ev), some (.ref D), some (.ref L), some (.int w), a, b, c, d, e, g, none, none] ∧ (∀ b o, b ≠ L → H0 b = some o → H4 b = some o) ∧ H4 L = some (.lst xs) ∧ DpAll K (del H4 L) xs (rcs.map rowR) ∧ rcs.length = i ∧ ∀ r ∈ rsC rcs, RowN ev r)
      ⟨0, none, none, none, none, none, none, [], [], rfl, fun _ _ _ h => h, hL0, .nil, rfl, fun r hr => by cases hr⟩ (fun _ _ _ _ _ => trivial) ?_ ?_
    · rintro i y σ H4 H4' hi ⟨wd, a, b, c, d, e, g, xs, rcs, rfl, kp, hL4, hrs, hlen, hN⟩ ⟨rfl, hy⟩
      have hy' : y = .int (i : Int) := by
        rw [hy]
        exact congrArg V.int (Int.zero_add _)
      subst hy'
      obtain ⟨z1, z2, z3, z4⟩ := szD_at i (by omega)
      obtain ⟨k1, o1, k1a, k1b⟩ := at_out z1
      obtain ⟨k2, o2, k2a, k2b⟩ := at_out z2
      obtain ⟨k3, o3, k3a, k3b⟩ := at_out z3
      obtain ⟨k4, o4, k4a, k4b⟩ := at_out z4
      have hD4 := kp _ _ nDL hD0
      have xl : xs.length = i := by
        rw [dps_len hrs, List.length_map]
        exact hlen
      refine ⟨_, rfl, _, rfl, _, _, rfl, rfl, .inl ⟨by decide, by decide⟩, _, _, rfl, rfl, _, rfl, _, rfl, _, _, rfl, rfl, .inl ⟨by decide, by decide⟩, _, _, rfl, rfl, _, rfl, D, _, rfl, SqL.of hD4, fun ps hps => ?_⟩
      rw [cut4 ol (by omega) o1 o2 o3 o4]
      refine ⟨ps, _, rfl, SqL.of upd_same, rfl, _, _, rfl, _, _, rfl, _, _, rfl, _, _, rfl, rfl, ?_⟩
      have s5 := same_new (o := .lst [V.int k1, V.int k2, V.int k3, V.int k4]) hps
      generalize hH5 : upd H4' ps (.lst [V.int k1, V.int k2, V.int k3, V.int k4]) = H5 at s5
      have hL5 := s5 _ _ hL4
      -- what an append comes to
      have fin : ∀ {H9 : Hp} {v : V} {rc : RowC}, Same H5 H9 → Dp K (del H9 L) v (rowR rc) → RowN ev rc → H9 L = some (.lst xs) ∧ xs.length < sizeLine ∧ ∀ (w : Int) (a b c d e g : Option V), (∃ (w' : Int) (a' b' c' d' e' g' : Option V) (xs' : List V) (rcs' : List RowC), ([some (.int n), some (.int 9), some (.bl ev), some (.ref D), some (.ref L), some (.int w), a, b, c, d, e, g, none, none] : L2.St) = [some (.int n), some (.int 9), some (.bl ev), some (.ref D), some (.ref L), some (.int w'), a', b', c', d', e', g', none, none] ∧ (∀ b o, b ≠ L → H0 b = some o → upd H9 L (.lst (xs ++ [v])) b = some o) ∧ upd H9 L (.lst (xs ++ [v])) L = some (.lst xs') ∧ DpAll K (del (upd H9 L (.lst (xs ++ [v]))) L) xs' (rcs'.map rowR) ∧ rcs'.length = i + 1 ∧ ∀ r ∈ rsC rcs', RowN ev r) := by
        intro H9 v rc s9 hr hn
        have s49 := s5.trans s9
        refine ⟨s9 _ _ hL5, small1000 (by omega), fun w a b c d e g => ⟨w, a, b, c, d, e, g, xs ++ [v], rcs ++ [rc], rfl, fun b o hb eb => ?_, upd_same, ?_, ?_, ?_⟩⟩
        · rw [upd_ne hb]
          exact s49 _ _ (kp b o hb eb)
        · rw [del_upd]
          rw [List.map_append]
          exact dps_app (dps_same (del_same_of s49) hrs) (.cons hr .nil)
        · rw [List.length_append, hlen]
          rfl
        · intro x hx
          rcases List.mem_append.mp hx with h | h
          · exact hN _ h
          · rw [List.mem_singleton.mp h]
            exact hn
      refine ⟨_, rfl, _, _, rfl, rfl, _, rfl, els1 ?c fun b1 C => ⟨_, rfl, _, _, rfl, rfl, _, rfl, ?_⟩⟩
      rotate_left
      · cases b2 : decide (wd < 6) with
        | false => exact iteF C
        | true =>
        obtain ⟨ww, hww, eww⟩ := at12 k2a k2b
        refine iteT ⟨_, rfl, _, _, rfl, rfl, _, rfl, .inl ⟨rfl, _, SqL.of hL5⟩, _, rfl, (by show 1 ≤ sizeLine; decide), fun p1 hp1 => ⟨(by show 12 ≤ sizeLine; decide), fun p2 hp2 => ?_⟩⟩
        have n12 : p1 ≠ p2 := ne_of_none upd_same hp2
        refine ⟨_, rfl, p2, _, _, _, rfl, rfl, SqL.of upd_same, eww, p1, ww, _, rfl, rfl, by rw [upd_ne n12]; exact upd_same, by omega, by omega, ?_, fun p3 hp3 => ⟨(by show 2 ≤ sizeLine; decide), fun p4 hp4 => ?_⟩⟩
        · show 1 * (ww : Int).toNat ≤ sizeLine
          rw [Int.toNat_natCast]
          have : 1 * ww ≤ 1000 := by omega
          exact Nat.le_trans this (by decide)
        have s8 := ((same_new (o := .lst [V.int (i : Int)]) hp1).trans (same_new (o := .lst ([0, 1, 2, 3, 40, 120, 127, 128, 250, 253, 254, 255].map V.int)) hp2)).trans (same_new (o := .lst (List.replicate (ww : Int).toNat [V.int (i : Int)]).flatten) hp3)
        have s9 := s8.trans (same_new (o := .tup [V.str "words", V.ref p3]) hp4)
        have l4 : L ≠ p4 := ne_of_none (s8 _ _ hL5) hp4
        have l3 : L ≠ p3 := ne_of_none (((same_new (o := .lst [V.int (i : Int)]) hp1).trans (same_new (o := .lst ([0, 1, 2, 3, 40, 120, 127, 128, 250, 253, 254, 255].map V.int)) hp2)) _ _ hL5) hp3
        have n34 : p3 ≠ p4 := ne_of_none upd_same hp4
        obtain ⟨f1, f2, f3⟩ := fin (rc := .words (List.replicate ww (.num (i : Int)))) s9 (.tup (SqT.of (by rw [del_ne l4.symm]; exact upd_same)) (.cons (.str _) (.cons (.lst (SqL.of (by
          rw [del_ne l3.symm, upd_ne n34, upd_same, Int.toNat_natCast])) (by
          have e : (List.replicate ww [V.int (i : Int)]).flatten = (List.replicate ww (i : Int)).map V.int := by simp
          have e2 : (List.replicate ww (WordM.num (i : Int))).map rawD = (List.replicate ww (i : Int)).map PyData.int := by simp [rawD]
          rw [e, e2]
          exact dps_ints _)) .nil))) ⟨by rw [List.length_replicate]; exact hww, fun w hw => ⟨_, List.eq_of_mem_replicate hw⟩⟩
        exact ⟨L, xs, _, rfl, rfl, f1, f2, f3 _ _ _ _ _ _ _⟩
      · refine ⟨_, rfl, rfl, _, rfl, els1 ?c2 fun b1 C => ⟨_, rfl, _, rfl, ?ev⟩⟩
        rotate_left
        · cases ev with
          | false => exact iteF C
          | true =>
            obtain ⟨ww, hw1, hw2, eww⟩ := atEv k2a k2b
            refine iteT ⟨_, rfl, .inl ⟨rfl, _, SqL.of hL5⟩, (by show 12 ≤ sizeLine; decide), fun p2 hp2 => ⟨_, rfl, p2, _, _, _, rfl, rfl, SqL.of upd_same, eww, (by show 2 ≤ sizeLine; decide), fun p4 hp4 => ?_⟩⟩
            have s8 := same_new (o := .lst ([1, 2, 3, 4, 5, 8, 16, 32, 40, 64, 7, 63].map V.int)) hp2
            have s9 := s8.trans (same_new (o := .tup [V.str "even", V.int ww]) hp4)
            have l4 : L ≠ p4 := ne_of_none (s8 _ _ hL5) hp4
            obtain ⟨f1, f2, f3⟩ := fin (rc := .even ww) s9 (.tup (SqT.of (by rw [del_ne l4.symm]; exact upd_same)) (.cons (.str _) (.cons (.int _) .nil))) ⟨rfl, hw1, hw2⟩
            exact ⟨L, xs, _, rfl, rfl, f1, f2, f3 _ _ _ _ _ _ _⟩
        have hk4 : ∃ v : Int, atI [V.int 0, V.int 5, V.int (-3)] k4 = some (.int v) := by
          obtain ⟨t, rfl⟩ := Int.eq_ofNat_of_zero_le k4a
          match t, k4b with
          | 0, _ => exact ⟨0, rfl⟩
          | 1, _ => exact ⟨5, rfl⟩
          | 2, _ => exact ⟨-3, rfl⟩
          | t + 3, z => omega
        obtain ⟨mv, hmv⟩ := hk4
        obtain ⟨cs, hcs, ecs⟩ := atStr (ss := nearL) k4a k4b
        refine ⟨_, rfl, rfl, _, rfl, ?_⟩
        rw [intEq]
        cases c3 : decide (k3 = 4) with
        | true =>
          obtain rfl := of_decide_eq_true c3
          refine iteT ⟨_, rfl, (by show 3 ≤ sizeLine; decide), fun p1 hp1 => ⟨_, rfl, p1, _, _, _, rfl, rfl, SqL.of upd_same, hmv, ?_⟩⟩
          have s6 := same_new (o := .lst [V.int 0, V.int 5, V.int (-3)]) hp1
          generalize hH6 : upd H5 p1 (.lst [V.int 0, V.int 5, V.int (-3)]) = H6 at s6
          have hm : mv ≠ 0 → ("away" : Str) = "away" := fun _ => rfl
          have hnm : ("away" : Str) ∈ nmL := by decide +kernel
          have enm : atI (nmL.map V.str) 4 = some (.str "away") := at_of (i := 4) rfl
          refine ⟨_, rfl, .inl ⟨rfl, _, SqL.of (s6 _ _ hL5)⟩, (by show 3 ≤ sizeLine; decide), fun p2 hp2 => ⟨_, rfl, p2, _, _, _, rfl, rfl, SqL.of upd_same, ecs, (by show 5 ≤ sizeLine; decide), fun p3 hp3 => ⟨_, rfl, p3, _, _, _, rfl, rfl, SqL.of upd_same, enm, _, rfl, (by show 4 ≤ sizeLine; decide), fun p4 hp4 => ?_⟩⟩⟩
          have s9 := ((s6.trans (same_new (o := .lst (nearL.map V.str)) hp2)).trans (same_new (o := .lst (nmL.map V.str)) hp3)).trans (same_new (o := .tup [V.str "branch", V.str cs, V.str "away", V.int mv]) hp4)
          have l4 : L ≠ p4 := ne_of_none (((s6.trans (same_new (o := .lst (nearL.map V.str)) hp2)).trans (same_new (o := .lst (nmL.map V.str)) hp3)) _ _ hL5) hp4
          obtain ⟨f1, f2, f3⟩ := fin (rc := .branch cs "away" mv) s9 (.tup (SqT.of (by rw [del_ne l4.symm]; exact upd_same)) (.cons (.str _) (.cons (.str _) (.cons (.str _) (.cons (.int _) .nil))))) ⟨hcs, hnm, hm⟩
          exact ⟨L, xs, _, rfl, rfl, f1, f2, f3 _ _ _ _ _ _ _⟩
        | false =>
          obtain ⟨nm, hnm, enm⟩ := atStr (ss := nmL) k3a k3b
          refine iteF ?_
          have s6 := Same.refl H5
          have hm : (0 : Int) ≠ 0 → nm = "away" := fun z => absurd rfl z
          refine ⟨_, rfl, .inl ⟨rfl, _, SqL.of (s6 _ _ hL5)⟩, (by show 3 ≤ sizeLine; decide), fun p2 hp2 => ⟨_, rfl, p2, _, _, _, rfl, rfl, SqL.of upd_same, ecs, (by show 5 ≤ sizeLine; decide), fun p3 hp3 => ⟨_, rfl, p3, _, _, _, rfl, rfl, SqL.of upd_same, enm, _, rfl, (by show 4 ≤ sizeLine; decide), fun p4 hp4 => ?_⟩⟩⟩
          have s9 := ((s6.trans (same_new (o := .lst (nearL.map V.str)) hp2)).trans (same_new (o := .lst (nmL.map V.str)) hp3)).trans (same_new (o := .tup [V.str "branch", V.str cs, V.str nm, V.int 0]) hp4)
          have l4 : L ≠ p4 := ne_of_none (((s6.trans (same_new (o := .lst (nearL.map V.str)) hp2)).trans (same_new (o := .lst (nmL.map V.str)) hp3)) _ _ hL5) hp4
          obtain ⟨f1, f2, f3⟩ := fin (rc := .branch cs nm 0) s9 (.tup (SqT.of (by rw [del_ne l4.symm]; exact upd_same)) (.cons (.str _) (.cons (.str _) (.cons (.str _) (.cons (.int _) .nil))))) ⟨hcs, hnm, hm⟩
          exact ⟨L, xs, _, rfl, rfl, f1, f2, f3 _ _ _ _ _ _ _⟩
    · rintro σ H4 ⟨wd, a, b, c, d, e, g, xs, rcs, rfl, kp, hL4, hrs, hlen, hN⟩
      have hD4 := kp _ _ nDL hD0
      have ec : cutV (out.map V.int) (some 41) none = (out.map V.int).drop 41 := cut_from (r := 41) (by rw [List.length_map, ol]; omega)
      refine ⟨_, rfl, 41, rfl, D, _, rfl, SqL.of hD4, fun pa hpa => ?_⟩
      rw [ec]
      refine ⟨(by show 4 ≤ sizeLine; decide), fun pb hpb => ?_⟩
      have nab : pa ≠ pb := ne_of_none upd_same hpb
      have s6 := (same_new (o := .lst ((out.map V.int).drop 41)) hpa).trans (same_new (o := .lst [V.str "la", V.str "lb", V.str "lc", V.str "ld"]) hpb)
      have la : L ≠ pa := ne_of_none hL4 hpa
      have lb : L ≠ pb := ne_of_none ((same_new (o := .lst ((out.map V.int).drop 41)) hpa) _ _ hL4) hpb
      have ha6 : upd (upd H4 pa (.lst ((out.map V.int).drop 41))) pb (.lst [V.str "la", V.str "lb", V.str "lc", V.str "ld"]) pa = some (.lst ((out.map V.int).drop 41)) := by rw [upd_ne nab]; exact upd_same
      have hb6 : upd (upd H4 pa (.lst ((out.map V.int).drop 41))) pb (.lst [V.str "la", V.str "lb", V.str "lc", V.str "ld"]) pb = some (.lst (labs4.map V.str)) := upd_same
      refine ⟨pa, pb, _, _, rfl, SqL.of ha6, SqL.of hb6, ?_⟩
      have hL6 := s6 _ _ hL4
      have hrs6 : DpAll K (del (upd (upd H4 pa (.lst ((out.map V.int).drop 41))) pb (.lst [V.str "la", V.str "lb", V.str "lc", V.str "ld"])) L) xs (rcs.map rowR) := dps_same (del_same_of s6) hrs
      have kp6 : ∀ b o, b ≠ L → H0 b = some o → upd (upd H4 pa (.lst ((out.map V.int).drop 41))) pb (.lst [V.str "la", V.str "lb", V.str "lc", V.str "ld"]) b = some o := fun b o hb eb => s6 _ _ (kp b o hb eb)
      generalize hH6 : upd (upd H4 pa (.lst ((out.map V.int).drop 41))) pb (.lst [V.str "la", V.str "lb", V.str "lc", V.str "ld"]) = H6 at *
      obtain ⟨G0, F0, E0⟩ := N_G hN (by show rcs.length ≤ 20; omega)
      refine for_it (walk_zip (n := 4) (xs := (out.map V.int).drop 41) (ys := labs4.map V.str) (by rw [List.length_drop, List.length_map, ol]; rfl))
        (fun i σ H5 => ∃ (u v : Option V) (xs : List V) (rcs : List RowC), σ = [some (.int n), some (.int 9), some (.bl ev), some (.ref D), some (.ref L), some (.int wd), a, b, c, d, e, g, u, v] ∧ (∀ b o, b ≠ L → H6 b = some o → H5 b = some o) ∧ H5 L = some (.lst xs) ∧ DpAll K (del H5 L) xs (rcs.map rowR) ∧ rcs.length = m + i ∧ DraftG (rsC rcs) ∧ (ev = false → noEven (rsC rcs)) ∧ (∀ s ∈ (rsC rcs).filterMap labR, ∃ j, j < i ∧ labs4[j]? = some s) ∧ ∀ j, j < i → ∀ z, labs4[j]? = some z → z ∈ (rsC rcs).filterMap labR)
        ⟨none, none, xs, rcs, rfl, fun _ _ _ h => h, hL6, hrs6, by omega, G0, E0, (fun s hs => by rw [F0] at hs; cases hs), fun j hj => absurd hj (Nat.not_lt_zero _)⟩ ?_ ?_ ?_
      · rintro i σ H5 _ ⟨u, v, xs, rcs, _, kp5, _⟩
        exact ⟨SqL.of (kp5 _ _ la.symm ha6), SqL.of (kp5 _ _ lb.symm hb6)⟩
      · rintro i y σ H5 H5' hi ⟨u, v, xs, rcs, rfl, kp5, hL5, hrs5, hlen5, hG5, hE5, hF5, hK5⟩ ⟨TT, x', y', rfl, hT, rfl, hx', hy'⟩
        have xl : xs.length = m + i := by
          rw [dps_len hrs5, List.length_map]
          exact hlen5
        obtain ⟨dv, od, dv0, dv1⟩ := at_out (szD_end i hi)
        have hx' : ((out.map V.int).drop 41)[i]? = some x' := hx'
        have hy' : (labs4.map V.str)[i]? = some y' := hy'
        obtain rfl : x' = .int dv := by
          rw [List.getElem?_drop, List.getElem?_map, od] at hx'
          exact (Option.some.inj hx').symm
        obtain ⟨sl, hsl, rfl⟩ : ∃ sl, labs4[i]? = some sl ∧ y' = .str sl := by
          rw [List.getElem?_map] at hy'
          cases es : labs4[i]? with
          | none => rw [es] at hy'; cases hy'
          | some sl =>
            rw [es] at hy'
            exact ⟨sl, rfl, (Option.some.inj hy').symm⟩
        have sT := same_new (o := .tup [V.int dv, V.str sl]) hT
        have hLT := sT _ _ hL5
        have pos : (0 : Int) < ((xs.length : Nat) : Int) + 1 := by omega
        refine ⟨TT, _, rfl, SqT.of upd_same, rfl, _, _, rfl, _, _, rfl, rfl, ?_⟩
        refine ⟨_, rfl, .inl ⟨rfl, _, SqL.of hLT⟩, _, rfl, _, rfl, L, _, rfl, .inl (SqL.of hLT), _, _, rfl, rfl, _, _, rfl, rfl, pos, _, rfl, (by show 2 ≤ sizeLine; decide), fun p4 hp4 => ?_⟩
        have s7 := sT.trans (same_new (o := .tup [V.str "label", V.str sl]) hp4)
        have l4 : L ≠ p4 := ne_of_none hLT hp4
        have i0 : 0 ≤ dv % (((xs.length : Nat) : Int) + 1) := Int.emod_nonneg _ (by omega)
        have i1 : dv % (((xs.length : Nat) : Int) + 1) < ((xs.length : Nat) : Int) + 1 := Int.emod_lt_of_pos _ pos
        refine ⟨L, xs, _, _, rfl, rfl, s7 _ _ hL5, small1000 (by omega), i0, by omega, ?_⟩
        generalize (dv % (((xs.length : Nat) : Int) + 1)).toNat = ix
        have pm := ins_perm (rsC rcs) ix (.label sl)
        have ri := rsC_ins rcs ix (.label sl)
        have fm := pm.filterMap labR
        refine ⟨_, _, _, rcs.take ix ++ [.label sl] ++ rcs.drop ix, rfl, fun b o hb eb => ?_, upd_same, ?_, ?_, ?_, ?_, ?_, ?_⟩
        · rw [upd_ne hb]
          exact s7 _ _ (kp5 b o hb eb)
        · rw [del_upd]
          exact dps_ins (rc := .label sl) ix (dps_same (del_same_of s7) hrs5) (.tup (SqT.of (by rw [del_ne l4.symm]; exact upd_same)) (.cons (.str _) (.cons (.str _) .nil)))
        · have e := (ins_perm rcs ix (.label sl)).length_eq
          rw [List.length_cons] at e
          omega
        · rw [ri]
          refine G_ins ix hG5 (List.mem_of_getElem? hsl) (by show rcs.length < 20; omega) fun s' hs' hm' => ?_
          cases hs'
          obtain ⟨j, hj, ej⟩ := hF5 _ hm'
          exact labs4_inj i hi j hj (ej.trans hsl.symm)
        · intro ee
          have hE5 := hE5 ee
          rw [ri]
          rw [noEven_iff] at hE5 ⊢
          intro r hr
          rcases List.mem_cons.mp (pm.mem_iff.mp hr) with z | z
          · rw [z]; rfl
          · exact hE5 r z
        · intro s' hs'
          rw [ri] at hs'
          have := fm.mem_iff.mp hs'
          rw [List.filterMap_cons] at this
          rcases List.mem_cons.mp this with z | z
          · exact ⟨i, by omega, by rw [z]; exact hsl⟩
          · obtain ⟨j, hj, ej⟩ := hF5 _ z
            exact ⟨j, by omega, ej⟩
        · intro j hj z hz
          rw [ri]
          refine fm.mem_iff.mpr ?_
          rw [List.filterMap_cons]
          by_cases c9 : j = i
          · rw [c9, hsl] at hz
            rw [Option.some.inj hz]
            exact List.mem_cons_self ..
          · exact List.mem_cons_of_mem _ (hK5 j (by omega) z hz)
      · rintro σ H5 ⟨u, v, xs, rcs, rfl, kp5, hL5, hrs5, hlen5, hG5, hE5, _, hK5⟩
        have hAll : ∀ z ∈ labs4, z ∈ (rsC rcs).filterMap labR := fun z hz => by
          obtain ⟨j, hj⟩ := List.getElem?_of_mem hz
          exact hK5 j (List.getElem?_eq_some_iff.mp hj).1 z hj
        refine ⟨_, rfl, q H5 L xs rcs (fun bb o eb => ?_) hLn hL5 (dps_same del_sub hrs5) hG5 hE5 hAll (by omega)⟩
        have nb : bb ≠ L := ne_of_none eb hLn
        exact kp5 bb o nb (kp6 bb o nb (t9 _ _ eb))
end

abbrev sLBr : Stmt := topS 57
abbrev sLSp : Stmt := topS 58
theorem scLBr : FnScope ["rows", "k", "row"] ["rows"] (defScope sLBr) := ⟨rfl, rfl, rfl, by decide +kernel, rfl, by decide +kernel, by decide +kernel⟩
theorem scLSp : FnScope ["rows", "k", "row"] ["rows"] (defScope sLSp) := ⟨rfl, rfl, rfl, by decide +kernel, rfl, by decide +kernel, by decide +kernel⟩
/-- the rows of a draft in a list -/
structure LRows (K : PySem.W.Frag) (H : Hp) (L : Addr) (xs : List V) (rs : List Row) : Prop where
  lst : SqL K H L xs
  rows : RowsV K H xs rs
  len : rs.length ≤ 900
theorem LRows.same {K : PySem.W.Frag} {H H' : Hp} {L : Addr} {xs : List V} {rs : List Row} (h : LRows K H L xs rs) (e : Same H H') : LRows K H' L xs rs := ⟨sqL_same e h.lst, rowsV_same e h.rows, h.len⟩
def spLBr (K : PySem.W.Frag) : Sp := fun vs H Q _ => ∃ (L : Addr) (xs : List V) (rs : List Row), vs = [.ref L] ∧ LRows K H L xs rs ∧ ∀ H' p, Same H H' → H p = none → H' p = some (.lst (nats (brs rs))) → Q (.ref p) H'
def spLSp (K : PySem.W.Frag) : Sp := fun vs H Q _ => ∃ (L : Addr) (xs : List V) (rs : List Row), vs = [.ref L] ∧ LRows K H L xs rs ∧ ∀ H' p, Same H H' → H p = none → H' p = some (.dK (spD rs rs.length)) → Q (.ref p) H'
theorem brsTo_s (rs : List Row) (i : Nat) : brsTo rs (i + 1) = brsTo rs i ++ (if isBr rs i = true then [i] else []) := by
  unfold brsTo
  rw [List.range_succ, List.filter_append]
  congr 1
  cases e : isBr rs i <;> simp [List.filter, e]
theorem isBr_k {rs : List Row} {i : Nat} {r : Row} (h : rs[i]? = some r) : isBr rs i = decide (kindOf r = ("branch" : Str)) := by
  unfold isBr
  rw [h, br_kind]
  cases r <;> rfl
def labK (rs : List Row) : Nat → List (Key × V)
  | 0 => []
  | i + 1 => labK rs i ++ (match labOf rs i with
    | some s => [(Sum.inr s, .int (i : Nat))]
    | none => [])
theorem merge_labK (rs : List Row) : ∀ i, mergeK [] (labK rs i) = spD rs i
  | 0 => rfl
  | i + 1 => by
    unfold labK spD mergeK
    rw [List.foldl_append]
    have := merge_labK rs i
    unfold mergeK at this
    rw [this]
    cases labOf rs i <;> rfl
theorem labK_len (rs : List Row) : ∀ i, (labK rs i).length ≤ i
  | 0 => Nat.le_refl _
  | i + 1 => by
    unfold labK
    have := labK_len rs i
    rw [List.length_append]
    cases labOf rs i <;> simp <;> omega
abbrev gE (K : PySem.W.Frag) (i j : Nat) : TG := gTup K 2 (gCons (gName i) (gCons (gName j) gNil))
section
variable {P : Program} {w : World} {K : PySem.W.Frag} {mg : Str → Option Value} {base : Heap}
theorem ok_lbr {f : Addr} {fd : FuncData} (F : Fun K "_law_branches" "_law_branches" sLBr f fd) (T : Bi mg) : FnOk P w K mg base CX0 1 f fd ["rows"] (spLBr K) := by
  refine F.ok scLBr (fun vs H Q E h => ?_) (fun cdv A outer s H vs Q E hr h => ?_)
  · obtain ⟨L, xs, rs, rfl, _⟩ := h
    rfl
  · obtain ⟨L, xs, rs, rfl, ⟨hL, hrs, hlen⟩, q⟩ := h
    refine ⟨_, (pss_one (ps_ret (pe_lc (own := [("k", 1), ("row", 2)]) (g := gE K 1 2) (tt := row0Is K 2 "branch") (te := tVar 1) rfl scLBr.nd (pi_enum (by rfl) T.enumerate (pa_cons (pv 0) pa_nil)) (blkOk_by (N := ["rows", "k", "row"]) (sc := defScope sLBr) (by decide +kernel)) (fun _ _ _ _ _ => (pg_tup rfl (pgs_cons (pg_name (i := 1) scLBr.nd rfl (.inl rfl) (.inr rfl)) (pgs_cons (pg_name (i := 2) scLBr.nd rfl (.inl rfl) (.inr rfl)) pgs_nil)))) (fun _ _ _ _ _ => pts_one (pt_cmpR op_eq (pe_ix ix_tup (pv 2) pe_int (fun _ _ => rfl)) pe_str (nomark _))) (fun _ _ _ _ _ => (pv 1))))), ?_⟩
    have lx := rowsV_len hrs
    refine ⟨_, rfl, L, xs, rfl, hL, fun D hD => ?_⟩
    refine lc_it walk_enum (fun i H4 => (∀ c o, c ≠ D → H c = some o → H4 c = some o) ∧ H4 D = some (.lst (nats (brsTo rs i)))) ⟨fun c o hc e => by rw [upd_ne hc]; exact e, upd_same⟩ (fun i H4 _ ⟨kp, _⟩ => sqL_same (fun c o e => kp c o (ne_of_none e hD) e) hL) ?_ ?_
    · rintro i x H4 H4' hi ⟨kp, hD4⟩ ⟨TT, x', y, rfl, hT, rfl, hx', hy⟩
      cases hx'
      have s4 : Same H H4 := fun c o e => kp c o (ne_of_none e hD) e
      have s5 : Same H4 (upd H4 TT (.tup [.int (i : Nat), y])) := same_new hT
      obtain ⟨r, hri, hrv⟩ := rowsV_get hrs hy
      obtain ⟨a, zs, rfl, ht, h0⟩ := rowV_tup (rowV_same (s4.trans s5) hrv)
      have eb := isBr_k hri
      refine ⟨TT, _, rfl, SqT.of upd_same, rfl, _, _, rfl, _, _, rfl, rfl, rfl, row0_is rfl ht h0 eb.symm ?_⟩
      have hD5 := s5 _ _ hD4
      have bl := brsTo_len rs i
      rw [brsTo_s]
      cases isBr rs i with
      | true =>
        refine iteT ⟨_, rfl, _, hD5, ?_, fun c o hc e => ?_, ?_⟩
        · rw [nats_len]
          exact small1000 (by omega)
        · rw [upd_ne hc]
          exact s5 _ _ (kp c o hc e)
        · rw [upd_same, if_pos rfl, nats_app]
          rfl
      | false =>
        refine iteF ⟨fun c o hc e => s5 _ _ (kp c o hc e), ?_⟩
        rw [if_neg (by decide), List.append_nil]
        exact hD5
    · rintro H4 ⟨kp, hD4⟩
      rw [lx] at hD4
      exact q H4 D (fun c o e => kp c o (ne_of_none e hD) e) hD hD4
theorem ok_lsp {f : Addr} {fd : FuncData} (F : Fun K "_law_spots" "_law_spots" sLSp f fd) (T : Bi mg) : FnOk P w K mg base CX0 1 f fd ["rows"] (spLSp K) := by
  refine F.ok scLSp (fun vs H Q E h => ?_) (fun cdv A outer s H vs Q E hr h => ?_)
  · obtain ⟨L, xs, rs, rfl, _⟩ := h
    rfl
  · obtain ⟨L, xs, rs, rfl, ⟨hL, hrs, hlen⟩, q⟩ := h
    refine ⟨_, (pss_one (ps_ret (pe_callTy (call_dictP rfl) (by rfl) T.dict (by decide +kernel) (pa_cons (pe_lc (own := [("k", 1), ("row", 2)]) (g := gE K 1 2) (tt := row0Is K 2 "label") (te := tTup (tCons (ixT K 2 1) (tCons (tVar 1) tNil))) rfl scLSp.nd (pi_enum (by rfl) T.enumerate (pa_cons (pv 0) pa_nil)) (blkOk_by (N := ["rows", "k", "row"]) (sc := defScope sLSp) (by decide +kernel)) (fun _ _ _ _ _ => (pg_tup rfl (pgs_cons (pg_name (i := 1) scLSp.nd rfl (.inl rfl) (.inr rfl)) (pgs_cons (pg_name (i := 2) scLSp.nd rfl (.inl rfl) (.inr rfl)) pgs_nil)))) (fun _ _ _ _ _ => pts_one (pt_cmpR op_eq (pe_ix ix_tup (pv 2) pe_int (fun _ _ => rfl)) pe_str (nomark _))) (fun _ _ _ _ _ => (pe_tup (pa_cons (pe_ix ix_tup (pv 2) pe_int (fun _ _ => rfl)) (pa_cons (pv 1) pa_nil))))) pa_nil)))), ?_⟩
    have lx := rowsV_len hrs
    refine ⟨_, rfl, L, xs, rfl, hL, fun D hD => ?_⟩
    refine lc_it walk_enum (fun i H4 => (∀ c o, c ≠ D → H c = some o → H4 c = some o) ∧ ∃ ps : List Addr, H4 D = some (.lst (ps.map V.ref)) ∧ Paired (fun p kv => SqT K H4 p [kV kv.1, kv.2]) ps (labK rs i)) ⟨fun c o hc e => by rw [upd_ne hc]; exact e, [], upd_same, .nil⟩ (fun i H4 _ ⟨kp, _⟩ => sqL_same (fun c o e => kp c o (ne_of_none e hD) e) hL) ?_ ?_
    · rintro i x H4 H4' hi ⟨kp, ps, hD4, hps⟩ ⟨TT, x', y, rfl, hT, rfl, hx', hy⟩
      cases hx'
      have s4 : Same H H4 := fun c o e => kp c o (ne_of_none e hD) e
      have s5 : Same H4 (upd H4 TT (.tup [.int (i : Nat), y])) := same_new hT
      obtain ⟨r, hri, hrv⟩ := rowsV_get hrs hy
      have hrv5 := rowV_same (s4.trans s5) hrv
      obtain ⟨a, zs, rfl, ht, h0⟩ := rowV_tup hrv5
      refine ⟨TT, _, rfl, SqT.of upd_same, rfl, _, _, rfl, _, _, rfl, rfl, rfl, row0_is rfl ht h0 (lab_kind r) ?_⟩
      have hD5 := s5 _ _ hD4
      have el := labOf_at hri
      have pl : ps.length ≤ i := by
        rw [hps.length]
        exact labK_len rs i
      have lk : labK rs (i + 1) = labK rs i ++ (match labR r with
        | some s => [(Sum.inr s, .int (i : Nat))]
        | none => []) := by
        rw [← el]
        rfl
      cases eR : labR r with
      | none =>
        rw [eR, List.append_nil] at lk
        refine iteF ⟨fun c o hc e => s5 _ _ (kp c o hc e), ps, hD5, ?_⟩
        rw [lk]
        exact hps.mono fun p kv h => sqT_same s5 h
      | some z =>
        rw [eR] at lk
        obtain rfl := labR_some eR
        obtain ⟨a', ea, h2⟩ := hrv5
        refine iteT ⟨_, rfl, a', _, _, _, ea, rfl, h2, at_of (i := 1) rfl, _, rfl, (by show 2 ≤ sizeLine; decide), fun p4 hp4 => ?_⟩
        have s6 := s5.trans (same_new (o := .tup [V.str z, V.int (i : Nat)]) hp4)
        have nD : p4 ≠ D := ne_of_none' hD5 hp4
        refine ⟨_, s6 _ _ hD4, ?_, fun c o hc e => ?_, ps ++ [p4], ?_, ?_⟩
        · rw [List.length_map]
          exact small1000 (by omega)
        · rw [upd_ne hc]
          exact s6 _ _ (kp c o hc e)
        · rw [upd_same, List.map_append]
          rfl
        · rw [lk]
          refine Paired.snoc (hps.mono fun p kv h => sqT_put (sqT_same s6 h) (s6 _ _ hD4) trivial) ?_
          exact sqT_put (SqT.of upd_same) (s6 _ _ hD4) trivial
    · rintro H4 ⟨kp, ps, hD4, hps⟩
      have s4 : Same H H4 := fun c o e => kp c o (ne_of_none e hD) e
      rw [lx] at hps
      refine ⟨D, ps, _, rfl, SqL.of hD4, hps, fun p hp => ?_⟩
      rw [merge_labK]
      have hpn : H p = none := by
        cases e : H p with
        | none => rfl
        | some u => rw [s4 _ _ e] at hp; cases hp
      exact q _ p (s4.trans (same_new hp)) hpn upd_same
end

abbrev sLOu : Stmt := topS 59
abbrev sLBe : Stmt := topS 60
theorem scLOu : FnScope ["rows", "spots", "k"] ["rows"] (defScope sLOu) := ⟨rfl, rfl, rfl, by decide +kernel, rfl, by decide +kernel, by decide +kernel⟩
theorem scLBe : FnScope ["rows", "far", "found", "k", "row", "size"] ["rows", "far"] (defScope sLBe) := ⟨rfl, rfl, rfl, by decide +kernel, rfl, by decide +kernel, by decide +kernel⟩
def spLOu (K : PySem.W.Frag) : Sp := fun vs H Q _ => ∃ (L : Addr) (xs : List V) (rs : List Row), vs = [.ref L] ∧ LRows K H L xs rs ∧ ∀ H' p, Same H H' → H p = none → H' p = some (.lst (nats (outs rs))) → Q (.ref p) H'
def spLBe (K : PySem.W.Frag) : Sp := fun vs H Q _ => ∃ (L l : Addr) (xs : List V) (rs : List Row) (ns : List Int), vs = [.ref L, .ref l] ∧ LRows K H L xs rs ∧ (∀ r ∈ rs, RowOk r) ∧ (SqL K H l (ns.map V.int) ∨ SqT K H l (ns.map V.int)) ∧ ∀ H' p, Same H H' → H p = none → H' p = some (.lst (offTo (mem ns) rs rs.length)) → Q (.ref p) H'
/-- a branch of the rows -/
theorem br_at {K : PySem.W.Frag} {H : Hp} {xs : List V} {rs : List Row} {k : Nat} (hrs : RowsV K H xs rs) (h : k ∈ brs rs) : ∃ (a : Addr) (c n : Str) (m : Int), xs[k]? = some (.ref a) ∧ SqT K H a [.str "branch", .str c, .str n, .int m] ∧ toOf rs k = some n ∧ k < rs.length := by
  obtain ⟨c, n, m, e⟩ := brs_mem h
  have hk : k < rs.length := (List.getElem?_eq_some_iff.mp e).1
  have lx := rowsV_len hrs
  have ex : xs[k]? = some xs[k] := List.getElem?_eq_getElem (by omega)
  obtain ⟨r, hr, hv⟩ := rowsV_get hrs ex
  rw [e] at hr
  cases hr
  obtain ⟨a, ea, ha⟩ := hv
  rw [ea] at ex
  refine ⟨a, c, n, m, ex, ha, ?_, hk⟩
  rw [toOf_at e]
theorem even_mod (n c : Int) : (n - c % n) % n = (-c) % n := by
  rw [Int.emod_def c n]
  have e : n - (c - n * (c / n)) = -c + n * (1 + c / n) := by
    rw [Int.mul_add, Int.mul_one]
    omega
  rw [e, Int.add_mul_emod_self_left]
section
variable {P : Program} {w : World} {K : PySem.W.Frag} {mg : Str → Option Value} {base : Heap}
theorem ok_lou {f : Addr} {fd : FuncData} (F : Fun K "_law_outs" "_law_outs" sLOu f fd) (T : Bi mg) (G1 : Has P w K mg base CX0 1 "_law_spots" ["rows"] (spLSp K)) (G2 : Has P w K mg base CX0 1 "_law_branches" ["rows"] (spLBr K)) : FnOk P w K mg base CX0 2 f fd ["rows"] (spLOu K) := by
  refine F.ok scLOu (fun vs H Q E h => ?_) (fun cdv A outer s H vs Q E hr h => ?_)
  · obtain ⟨L, xs, rs, rfl, _⟩ := h
    rfl
  · obtain ⟨L, xs, rs, rfl, hR, q⟩ := h
    have hu := hu_of hr
    refine ⟨_, (pss_cons (ps_set (i := 1) scLOu.nd rfl (.inr rfl) (pe_callH G1 hr (by rfl) pass0 (pa_cons (pv 0) pa_nil)))
      (pss_one (ps_ret (pe_lc (own := [("k", 2)]) (g := gName 2) (tt := tB (tDNotIn (tOp (rIxT K) (tOp (rIxL K) (tVar 0) (tVar 2)) (tC (.int 2))) (tVar 1))) (te := tVar 2) rfl scLOu.nd (pi_list (pe_callH G2 hr (by rfl) pass0 (pa_cons (pv 0) pa_nil))) (blkOk_by (N := ["rows", "spots", "k"]) (sc := defScope sLOu) (by decide +kernel)) (fun _ _ _ _ _ => pg_name (i := 2) scLOu.nd rfl (.inl rfl)) (fun _ _ _ _ _ => pts_one (pt_cmp (pc_dnotin hu (pe_ix ix_tup (pe_ix ix_list (pv 0) (pv 2) (fun _ _ => rfl)) pe_int (fun _ _ => rfl)) (pv 1)))) (fun _ _ _ _ _ => (pv 2)))))), ?_⟩
    refine ⟨_, rfl, L, xs, rs, rfl, hR, fun H1 d s1 hdn hd => ?_⟩
    refine ⟨_, rfl, L, xs, rs, rfl, hR.same s1, fun H2 B s2 hBn hB => ?_⟩
    have hR2 := hR.same (s1.trans s2)
    refine ⟨B, rfl, ⟨_, SqL.of hB⟩, fun D hD => ?_⟩
    have hd2 := s2 _ _ hd
    have sk : ∀ {H4 : Hp}, (∀ c o, c ≠ D → H2 c = some o → H4 c = some o) → Same H2 H4 := fun kp c o e => kp c o (ne_of_none e hD) e
    refine lc_it walk_list (fun i H4 => (∀ c o, c ≠ D → H2 c = some o → H4 c = some o) ∧ H4 D = some (.lst (nats (((brs rs).take i).filter fun k => (aim rs k).isNone)))) ⟨fun c o hc e => by rw [upd_ne hc]; exact e, upd_same⟩ (fun i H4 _ ⟨kp, _⟩ => SqL.of (sk kp _ _ hB)) ?_ ?_
    · rintro i x H4 H4' hi ⟨kp, hD4⟩ ⟨rfl, hx⟩
      have s4 := sk kp
      obtain ⟨k, hk, rfl⟩ := nats_get hx
      have hR4 := hR2.same s4
      obtain ⟨a, c, n, m, hxa, hta, hto, hkl⟩ := br_at hR4.rows (List.mem_of_getElem? hk)
      refine ⟨rfl, _, rfl, _, rfl, L, _, _, _, rfl, rfl, hR4.lst, at_of hxa, a, _, _, _, rfl, rfl, hta, at_of (i := 2) rfl, _, rfl, d, _, rfl, DGet.k (k := Sum.inr n) (s4 _ _ hd2), _, rfl, ?_⟩
      have ev : (!(valV (spD rs rs.length) (Sum.inr n)).isSome) = (aim rs k).isNone := by
        have : valV (spD rs rs.length) (Sum.inr n) = spV rs n := rfl
        rw [this, spot_spV, aim_of hto]
        cases spot rs n <;> rfl
      rw [ev]
      have tk : (brs rs).take (i + 1) = (brs rs).take i ++ [k] := by
        rw [List.take_add_one, hk]
        rfl
      have bl := brs_len rs
      have hl := hR.len
      rw [tk, List.filter_append]
      cases c9 : (aim rs k).isNone with
      | true =>
        refine iteT ⟨_, rfl, _, hD4, ?_, fun c o hc e => ?_, ?_⟩
        · rw [nats_len]
          have h1 : (((brs rs).take i).filter fun k => (aim rs k).isNone).length ≤ ((brs rs).take i).length := List.length_filter_le _ _
          have h2 : ((brs rs).take i).length ≤ (brs rs).length := by rw [List.length_take]; omega
          exact small1000 (by omega)
        · rw [upd_ne hc]
          exact kp c o hc e
        · rw [upd_same, nats_app]
          have : [k].filter (fun k => (aim rs k).isNone) = [k] := by simp [List.filter, c9]
          rw [this]
          rfl
      | false =>
        refine iteF ⟨kp, ?_⟩
        have : [k].filter (fun k => (aim rs k).isNone) = [] := by simp [List.filter, c9]
        rw [this, List.append_nil]
        exact hD4
    · rintro H4 ⟨kp, hD4⟩
      rw [nats_len, List.take_length] at hD4
      have s4 := (s1.trans s2).trans (sk kp)
      have hDn : H D = none := by
        cases e : H D with
        | none => rfl
        | some u => rw [(s1.trans s2) _ _ e] at hD; cases hD
      exact q H4 D s4 hDn hD4
theorem ok_lbe {f : Addr} {fd : FuncData} (F : Fun K "_law_begins" "_law_begins" sLBe f fd) (T : Bi mg) : FnOk P w K mg base CX0 1 f fd ["rows", "far"] (spLBe K) := by
  refine F.ok scLBe (fun vs H Q E h => ?_) (fun cdv A outer s H vs Q E hr h => ?_)
  · obtain ⟨L, l, xs, rs, ns, rfl, _⟩ := h
    rfl
  · obtain ⟨L, l, xs, rs, ns, rfl, hR, nE, hl, q⟩ := h
    refine ⟨_, (pss_cons (ps_set (i := 2) scLBe.nd rfl (.inl rfl) (pe_lst (pa_cons pe_int pa_nil)))
      (pss_cons (ps_for PassesOwn.never rfl (pi_enum (by rfl) T.enumerate (pa_cons (pv 0) pa_nil)) (pg_tup rfl (pgs_cons (pg_name (i := 3) scLBe.nd rfl (.inl rfl)) (pgs_cons (pg_name (i := 4) scLBe.nd rfl (.inl rfl)) pgs_nil))) (pss_cons (ps_set (i := 5) scLBe.nd rfl (.inl rfl) pe_int)
        (pss_cons (ps_if (pt_cmpR op_eq (pe_ix ix_tup (pv 4) pe_int (fun _ _ => rfl)) pe_str (nomark _)) (pss_one (ps_set (i := 5) scLBe.nd rfl (.inl rfl) (pe_callB call_len_seq (by rfl) T.len (by decide +kernel) (pa_cons (pe_ix ix_tup (pv 4) pe_int (fun _ _ => rfl)) pa_nil)))) (pss_one (ps_if (pt_cmpR op_eq (pe_ix ix_tup (pv 4) pe_int (fun _ _ => rfl)) pe_str (nomark _)) (pss_one (ps_set (i := 5) scLBe.nd rfl (.inl rfl) (pe_op op_mod (pe_op op_sub (pe_ix ix_tup (pv 4) pe_int (fun _ _ => rfl)) (pe_op op_mod (pe_ix ix_list (pv 2) (pe_un un_neg pe_int) (fun _ _ => rfl)) (pe_ix ix_tup (pv 4) pe_int (fun _ _ => rfl)))) (pe_ix ix_tup (pv 4) pe_int (fun _ _ => rfl))))) (pss_one (ps_if (pt_cmpR op_eq (pe_ix ix_tup (pv 4) pe_int (fun _ _ => rfl)) pe_str (nomark _)) (pss_one (ps_set (i := 5) scLBe.nd rfl (.inl rfl) (pe_op op_add pe_int (pe_callTy call_int1 (by rfl) T.int (by decide +kernel) (pa_cons (pe_cmpR op_in_seq (pv 3) (pv 1) (by rfl)) pa_nil))))) pss_nil)))))
        (pss_one (ps_expr (pe_bm PySem.F.plainAttrs_list PySem.F.slot_list_append PySem.F.type_list_append mt_append (pv 2) (pa_cons (pe_op op_add (pe_ix ix_list (pv 2) (pe_un un_neg pe_int) (fun _ _ => rfl)) (pv 5)) pa_nil)))))))
      (pss_one (ps_ret (pv 2))))), ?_⟩
    refine ⟨(by show 1 ≤ sizeLine; decide), fun p hp => ?_⟩
    refine ⟨_, rfl, L, xs, rfl, (hR.same (same_new hp)).lst, ?_⟩
    have lx := rowsV_len hR.rows
    have hlen := hR.len
    refine for_it walk_enum (fun i σ H4 => ∃ (a b c : Option V), σ = [some (.ref L), some (.ref l), some (.ref p), a, b, c] ∧ Same H H4 ∧ H4 p = some (.lst (offTo (mem ns) rs i))) ⟨none, none, none, rfl, same_new hp, upd_same⟩ (fun i σ H4 _ ⟨_, _, _, _, sm, _⟩ => (hR.same sm).lst) ?_ ?_
    · rintro i x σ H4 H4' hi ⟨a, b, c, rfl, sm, hp4⟩ ⟨TT, x', y, rfl, hT, rfl, hx', hy⟩
      cases hx'
      have sm5 : Same H4 (upd H4 TT (.tup [.int (i : Nat), y])) := same_new hT
      obtain ⟨r, hri, hrv⟩ := rowsV_get hR.rows hy
      have hrv5 := rowV_same (sm.trans sm5) hrv
      have hp5 := sm5 _ _ hp4
      have hi' : i < rs.length := by omega
      have s5 := sm.trans sm5
      refine ⟨TT, _, rfl, SqT.of upd_same, rfl, _, _, rfl, _, _, rfl, rfl, ?_⟩
      cases r with
      | words n =>
        obtain ⟨a, b, rfl, h2, zz, hz, hzl⟩ := hrv5
        refine ⟨_, rfl, a, _, _, _, rfl, rfl, h2, at_of (i := 0) rfl, rfl, _, rfl, kEq (by decide +kernel) ⟨_, rfl, a, _, _, _, rfl, rfl, h2, at_of (i := 1) rfl, b, zz, rfl, hz, ?_⟩⟩
        refine ⟨_, rfl, .inl ⟨rfl, _, SqL.of hp5⟩, _, rfl, _, rfl, p, _, _, _, rfl, rfl, SqL.of hp5, offTo_last _ _ _, _, rfl, _, _, rfl, rfl, p, _, _, rfl, rfl, hp5, ?_, _, _, _, rfl, same_upd s5 hp, ?_⟩
        · rw [offTo_len]
          exact small1000 (by omega)
        · rw [upd_same, offTo_succ, off_succ hri]
          rw [hzl]
          rfl
      | label z =>
        obtain ⟨a, rfl, h2⟩ := hrv5
        refine ⟨_, rfl, a, _, _, _, rfl, rfl, h2, at_of (i := 0) rfl, rfl, _, rfl, kNe (by decide +kernel) ⟨_, rfl, a, _, _, _, rfl, rfl, h2, at_of (i := 0) rfl, rfl, _, rfl, kNe (by decide +kernel) ⟨_, rfl, a, _, _, _, rfl, rfl, h2, at_of (i := 0) rfl, rfl, _, rfl, kNe (by decide +kernel) ?_⟩⟩⟩
        refine ⟨_, rfl, .inl ⟨rfl, _, SqL.of hp5⟩, _, rfl, _, rfl, p, _, _, _, rfl, rfl, SqL.of hp5, offTo_last _ _ _, _, rfl, _, _, rfl, rfl, p, _, _, rfl, rfl, hp5, ?_, _, _, _, rfl, same_upd s5 hp, ?_⟩
        · rw [offTo_len]
          exact small1000 (by omega)
        · rw [upd_same, offTo_succ, off_succ hri]
          rfl
      | even n =>
        obtain ⟨a, rfl, h2⟩ := hrv5
        have hpos : 0 < n := nE _ (List.mem_of_getElem? hri)
        refine ⟨_, rfl, a, _, _, _, rfl, rfl, h2, at_of (i := 0) rfl, rfl, _, rfl, kNe (by decide +kernel) ⟨_, rfl, a, _, _, _, rfl, rfl, h2, at_of (i := 0) rfl, rfl, _, rfl, kEq (by decide +kernel) ?_⟩⟩
        refine ⟨_, rfl, a, _, _, _, rfl, rfl, h2, at_of (i := 1) rfl, _, rfl, _, rfl, p, _, _, _, rfl, rfl, SqL.of hp5, offTo_last _ _ _, _, rfl, a, _, _, _, rfl, rfl, h2, at_of (i := 1) rfl, _, _, rfl, rfl, hpos, _, _, rfl, rfl, _, rfl, a, _, _, _, rfl, rfl, h2, at_of (i := 1) rfl, _, _, rfl, rfl, hpos, ?_⟩
        refine ⟨_, rfl, .inl ⟨rfl, _, SqL.of hp5⟩, _, rfl, _, rfl, p, _, _, _, rfl, rfl, SqL.of hp5, offTo_last _ _ _, _, rfl, _, _, rfl, rfl, p, _, _, rfl, rfl, hp5, ?_, _, _, _, rfl, same_upd s5 hp, ?_⟩
        · rw [offTo_len]
          exact small1000 (by omega)
        · rw [upd_same, offTo_succ, off_succ hri, even_mod]
          rfl
      | branch c n m =>
        obtain ⟨a, rfl, h2⟩ := hrv5
        refine ⟨_, rfl, a, _, _, _, rfl, rfl, h2, at_of (i := 0) rfl, rfl, _, rfl, kNe (by decide +kernel) ⟨_, rfl, a, _, _, _, rfl, rfl, h2, at_of (i := 0) rfl, rfl, _, rfl, kNe (by decide +kernel) ⟨_, rfl, a, _, _, _, rfl, rfl, h2, at_of (i := 0) rfl, rfl, _, rfl, kEq (by decide +kernel) ?_⟩⟩⟩
        refine ⟨_, rfl, _, rfl, l, _, rfl, hl.imp (sqL_same s5) (sqT_same s5), rfl, flat_ints ns, .inr ⟨_, rfl, _, _, rfl, rfl, ?_⟩⟩
        refine ⟨_, rfl, .inl ⟨rfl, _, SqL.of hp5⟩, _, rfl, _, rfl, p, _, _, _, rfl, rfl, SqL.of hp5, offTo_last _ _ _, _, rfl, _, _, rfl, rfl, p, _, _, rfl, rfl, hp5, ?_, _, _, _, rfl, same_upd s5 hp, ?_⟩
        · rw [offTo_len]
          exact small1000 (by omega)
        · rw [upd_same, offTo_succ, off_succ hri]
          have e : inV (.int (i : Nat)) (ns.map V.int) = mem ns (i : Nat) := inV_ints _ _
          have e2 : (if false = true then !inV (V.int (i : Nat)) (ns.map V.int) else inV (V.int (i : Nat)) (ns.map V.int)) = mem ns (i : Nat) := e
          rw [e2]
          cases mem ns (i : Nat) <;> rfl
    · rintro σ H4 ⟨a, b, c, rfl, sm, hp4⟩
      rw [lx] at hp4
      exact ⟨_, rfl, q H4 p sm hp hp4⟩
end

abbrev sLWa : Stmt := topS 61
abbrev sLLo : Stmt := topS 62
theorem scLWa : FnScope ["rows", "far", "begins", "spots", "inner", "k"] ["rows", "far"] (defScope sLWa) := ⟨rfl, rfl, rfl, by decide +kernel, rfl, by decide +kernel, by decide +kernel⟩
theorem scLLo : FnScope ["rows", "far", "gaps", "k"] ["rows", "far"] (defScope sLLo) := ⟨rfl, rfl, rfl, by decide +kernel, rfl, by decide +kernel, by decide +kernel⟩
def wayD (f : Int → Bool) (rs : List Row) : List (Key × V) := mapD (fun k => .int (way f rs k)) (inn rs)
def spLWa (K : PySem.W.Frag) : Sp := fun vs H Q _ => ∃ (L l : Addr) (xs : List V) (rs : List Row) (ns : List Int), vs = [.ref L, .ref l] ∧ LRows K H L xs rs ∧ (∀ r ∈ rs, RowOk r) ∧ (SqL K H l (ns.map V.int) ∨ SqT K H l (ns.map V.int)) ∧ ∀ H' p, Same H H' → H p = none → H' p = some (.dK (wayD (mem ns) rs)) → Q (.ref p) H'
def spLLo (K : PySem.W.Frag) : Sp := fun vs H Q _ => ∃ (L l : Addr) (xs : List V) (rs : List Row) (ns : List Int), vs = [.ref L, .ref l] ∧ LRows K H L xs rs ∧ (∀ r ∈ rs, RowOk r) ∧ (SqL K H l (ns.map V.int) ∨ SqT K H l (ns.map V.int)) ∧ ∀ H' p, Same H H' → H p = none → H' p = some (.lst (nats (long (mem ns) rs))) → Q (.ref p) H'
theorem merge_mapD (g : Nat → V) : ∀ (ks js : List Nat), (js ++ ks).Nodup → mergeK (mapD g js) (mapD g ks) = mapD g (js ++ ks)
  | [], js, _ => by rw [List.append_nil]; rfl
  | k :: ks, js, nd => by
    have e : mergeK (mapD g js) (mapD g (k :: ks)) = mergeK (putK (mapD g js) (Sum.inl (k : Int)) (g k)) (mapD g ks) := rfl
    have hk : k ∉ js := fun z => by
      have := (List.nodup_append.mp nd).2.2 k z k (by simp)
      exact this rfl
    have ep : putK (mapD g js) (Sum.inl (k : Int)) (g k) = mapD g (js ++ [k]) := by
      have hv : valV (mapD g js) (Sum.inl (k : Int)) = none := by rw [mapD_val, if_neg hk]
      rw [putK_new _ hv]
      unfold mapD
      rw [List.map_append]
      rfl
    rw [e, ep, merge_mapD g ks (js ++ [k]) (by rw [List.append_assoc]; exact nd), List.append_assoc]
    rfl
theorem inn_at {K : PySem.W.Frag} {H : Hp} {xs : List V} {rs : List Row} {k : Nat} (hrs : RowsV K H xs rs) (h : k ∈ inn rs) : ∃ (a : Addr) (c n : Str) (m : Int) (j : Nat), xs[k]? = some (.ref a) ∧ SqT K H a [.str "branch", .str c, .str n, .int m] ∧ spV rs n = some (.int (j : Nat)) ∧ aim rs k = some j ∧ j < rs.length ∧ k < rs.length := by
  rw [← brs_inn] at h
  obtain ⟨h1, h2⟩ := List.mem_filter.mp h
  obtain ⟨a, c, n, m, e1, e2, e3, e4⟩ := br_at hrs h1
  obtain ⟨j, ej⟩ := Option.isSome_iff_exists.mp h2
  have es := spot_spV rs n
  rw [← aim_of e3, ej] at es
  exact ⟨a, c, n, m, j, e1, e2, es, ej, (aim_lt ej).1, e4⟩
section
variable {P : Program} {w : World} {K : PySem.W.Frag} {mg : Str → Option Value} {base : Heap}
theorem ok_lwa {f : Addr} {fd : FuncData} (F : Fun K "_law_ways" "_law_ways" sLWa f fd) (T : Bi mg) (G1 : Has P w K mg base CX0 1 "_law_begins" ["rows", "far"] (spLBe K)) (G2 : Has P w K mg base CX0 1 "_law_spots" ["rows"] (spLSp K)) (G3 : Has P w K mg base CX0 1 "_law_branches" ["rows"] (spLBr K)) : FnOk P w K mg base CX0 2 f fd ["rows", "far"] (spLWa K) := by
  refine F.ok scLWa (fun vs H Q E h => ?_) (fun cdv A outer s H vs Q E hr h => ?_)
  · obtain ⟨L, l, xs, rs, ns, rfl, _⟩ := h
    rfl
  · obtain ⟨L, l, xs, rs, ns, rfl, hR, nE, hl, q⟩ := h
    have hu := hu_of hr
    refine ⟨_, (pss_cons (ps_asg (pe_tup (pa_cons (pe_callH G1 hr (by rfl) pass0 (pa_cons (pv 0) (pa_cons (pv 1) pa_nil))) (pa_cons (pe_callH G2 hr (by rfl) pass0 (pa_cons (pv 0) pa_nil)) pa_nil))) (pg_tup rfl (pgs_cons (pg_name (i := 2) scLWa.nd rfl (.inr rfl)) (pgs_cons (pg_name (i := 3) scLWa.nd rfl (.inr rfl)) pgs_nil))))
      (pss_cons (ps_setLc (i := 4) (own := [("k", 5)]) (g := gName 5) (tt := tB (tDIn (tOp (rIxT K) (tOp (rIxL K) (tVar 0) (tVar 5)) (tC (.int 2))) (tVar 3))) (te := tVar 5) rfl scLWa.nd rfl rfl (sw_true rfl rfl rfl (by decide +kernel)) (pi_list (pe_callH G3 hr (by rfl) pass0 (pa_cons (pv 0) pa_nil))) (blkOk_by (N := ["rows", "far", "begins", "spots", "inner", "k"]) (sc := defScope sLWa) (by decide +kernel)) (fun _ _ _ _ _ => pg_name (i := 5) scLWa.nd rfl (.inl rfl)) (fun _ _ _ _ _ => pts_one (pt_cmp (pc_din hu (pe_ix ix_tup (pe_ix ix_list (pv 0) (pv 5) (fun _ _ => rfl)) pe_int (fun _ _ => rfl)) (pv 3)))) (fun _ _ _ _ _ => (pv 5)))
      (pss_one (ps_ret (pe_callTy (call_dictP rfl) (by rfl) T.dict (by decide +kernel) (pa_cons (pe_lc (own := [("k", 5)]) (g := gName 5) (tt := tYes) (te := tTup (tCons (tVar 5) (tCons (tOp (rI0 fun i j => .int (i - j)) (tOp (rIxL K) (tVar 2) (tDGet (tVar 3) (tOp (rIxT K) (tOp (rIxL K) (tVar 0) (tVar 5)) (tC (.int 2))))) (tOp (rIxL K) (tVar 2) (tVar 5))) tNil))) rfl scLWa.nd (pi_list (pv 4)) (blkOk_by (N := ["rows", "far", "begins", "spots", "inner", "k"]) (sc := defScope sLWa) (by decide +kernel)) (fun _ _ _ _ _ => pg_name (i := 5) scLWa.nd rfl (.inl rfl)) (fun _ _ _ _ _ => pts_nil) (fun _ _ _ _ _ => (pe_tup (pa_cons (pv 5) (pa_cons (pe_op op_sub (pe_ix ix_list (pv 2) (pe_dget hu (pv 3) (pe_ix ix_tup (pe_ix ix_list (pv 0) (pv 5) (fun _ _ => rfl)) pe_int (fun _ _ => rfl)) (fun _ _ => rfl)) (fun _ _ => rfl)) (pe_ix ix_list (pv 2) (pv 5) (fun _ _ => rfl))) pa_nil))))) pa_nil)))))), ?_⟩
    refine ⟨_, rfl, _, rfl, L, l, xs, rs, ns, rfl, hR, nE, hl, fun H1 O s1 _ hO => ?_⟩
    refine ⟨_, rfl, L, xs, rs, rfl, hR.same s1, fun H2 S s2 _ hS => ⟨(by show 2 ≤ sizeLine; decide), fun p hp => ?_⟩⟩
    refine ⟨p, _, rfl, SqT.of upd_same, rfl, _, _, rfl, _, _, rfl, rfl, ?_⟩
    have s3 := same_new (o := .tup [V.ref O, V.ref S]) hp
    have s03 := (s1.trans s2).trans s3
    have hO3 := s3 _ _ (s2 _ _ hO)
    have hS3 := s3 _ _ hS
    generalize hH3 : upd H2 p (.tup [V.ref O, V.ref S]) = H3 at s3 s03 hO3 hS3
    refine ⟨_, rfl, L, xs, rs, rfl, hR.same s03, fun H4 B s4 _ hB => ⟨B, rfl, ⟨_, SqL.of hB⟩, fun D hD => ?_⟩⟩
    have hO4 := s4 _ _ hO3
    have hS4 := s4 _ _ hS3
    have s04 := s03.trans s4
    have bl := brs_len rs
    have hl9 := hR.len
    have sk : ∀ {H5 : Hp}, (∀ c o, c ≠ D → H4 c = some o → H5 c = some o) → Same H4 H5 := fun kp c o e => kp c o (ne_of_none e hD) e
    have hDn : H D = none := by
      cases e : H D with
      | none => rfl
      | some u => rw [s04 _ _ e] at hD; cases hD
    refine lc_it walk_list (fun i H5 => (∀ c o, c ≠ D → H4 c = some o → H5 c = some o) ∧ H5 D = some (.lst (nats (((brs rs).take i).filter fun k => (aim rs k).isSome)))) ⟨fun c o hc e => by rw [upd_ne hc]; exact e, upd_same⟩ (fun i H5 _ ⟨kp, _⟩ => SqL.of (sk kp _ _ hB)) ?_ ?_
    · rintro i x H5 H5' hi ⟨kp, hD5⟩ ⟨rfl, hx⟩
      have s5 := sk kp
      obtain ⟨k, hk, rfl⟩ := nats_get hx
      have hR5 := hR.same (s04.trans s5)
      obtain ⟨a, c, n, m, hxa, hta, hto, hkl⟩ := br_at hR5.rows (List.mem_of_getElem? hk)
      refine ⟨rfl, _, rfl, _, rfl, L, _, _, _, rfl, rfl, hR5.lst, at_of hxa, a, _, _, _, rfl, rfl, hta, at_of (i := 2) rfl, _, rfl, S, _, rfl, DGet.k (k := Sum.inr n) (s5 _ _ hS4), _, rfl, ?_⟩
      have ev : (valV (spD rs rs.length) (Sum.inr n)).isSome = (aim rs k).isSome := by
        have : valV (spD rs rs.length) (Sum.inr n) = spV rs n := rfl
        rw [this, spot_spV, aim_of hto]
        cases spot rs n <;> rfl
      rw [ev]
      have tk : (brs rs).take (i + 1) = (brs rs).take i ++ [k] := by
        rw [List.take_add_one, hk]
        rfl
      rw [tk, List.filter_append]
      cases c9 : (aim rs k).isSome with
      | true =>
        refine iteT ⟨_, rfl, _, hD5, ?_, fun c o hc e => ?_, ?_⟩
        · rw [nats_len]
          have h1 : (((brs rs).take i).filter fun k => (aim rs k).isSome).length ≤ ((brs rs).take i).length := List.length_filter_le _ _
          have h2 : ((brs rs).take i).length ≤ (brs rs).length := by rw [List.length_take]; omega
          exact small1000 (by omega)
        · rw [upd_ne hc]
          exact kp c o hc e
        · rw [upd_same, nats_app]
          have : [k].filter (fun k => (aim rs k).isSome) = [k] := by simp [List.filter, c9]
          rw [this]
          rfl
      | false =>
        refine iteF ⟨kp, ?_⟩
        have : [k].filter (fun k => (aim rs k).isSome) = [] := by simp [List.filter, c9]
        rw [this, List.append_nil]
        exact hD5
    · rintro H5 ⟨kp, hD5⟩
      rw [nats_len, List.take_length, brs_inn] at hD5
      have s5 := sk kp
      have s05 := s04.trans s5
      have il := inn_len rs
      refine ⟨_, rfl, D, rfl, ⟨_, SqL.of hD5⟩, fun E2 hE2 => ?_⟩
      have sk2 : ∀ {H6 : Hp}, (∀ c o, c ≠ E2 → H5 c = some o → H6 c = some o) → Same H5 H6 := fun kp c o e => kp c o (ne_of_none e hE2) e
      refine lc_it walk_list (fun i H6 => (∀ c o, c ≠ E2 → H5 c = some o → H6 c = some o) ∧ ∃ ps : List Addr, H6 E2 = some (.lst (ps.map V.ref)) ∧ Paired (fun p kv => SqT K H6 p [kV kv.1, kv.2]) ps (mapD (fun k => .int (way (mem ns) rs k)) ((inn rs).take i))) ⟨fun c o hc e => by rw [upd_ne hc]; exact e, [], upd_same, .nil⟩ (fun i H6 _ ⟨kp, _⟩ => SqL.of (sk2 kp _ _ hD5)) ?_ ?_
      · rintro i x H6 H6' hi ⟨kp2, ps, hE6, hps⟩ ⟨rfl, hx⟩
        have s6 := sk2 kp2
        obtain ⟨k, hk, rfl⟩ := nats_get hx
        have hR6 := hR.same (s05.trans s6)
        obtain ⟨a, c, n, m, j, hxa, hta, hsp, hai, hjl, hkl⟩ := inn_at hR6.rows (List.mem_of_getElem? hk)
        have hO6 := s6 _ _ (s5 _ _ hO4)
        have hS6 := s6 _ _ (s5 _ _ hS4)
        have hg : DGet H6' S (.str n) (some (.int (j : Nat))) := by
          have := DGet.k (k := Sum.inr n) hS6
          rw [show valV (spD rs rs.length) (Sum.inr n) = some (.int (j : Nat)) from hsp] at this
          exact this
        have tk : (inn rs).take (i + 1) = (inn rs).take i ++ [k] := by
          rw [List.take_add_one, hk]
          rfl
        have pl : ps.length ≤ i := by
          rw [hps.length, mapD_len, List.length_take]
          omega
        have hi2 : i < (inn rs).length := (List.getElem?_eq_some_iff.mp hk).1
        refine ⟨rfl, yes_go (iteT ⟨_, rfl, _, rfl, _, rfl, _, rfl, _, rfl, L, _, _, _, rfl, rfl, hR6.lst, at_of hxa, a, _, _, _, rfl, rfl, hta, at_of (i := 2) rfl, S, _, rfl, hg, O, _, _, _, rfl, rfl, SqL.of hO6, offTo_at (by omega), _, rfl, _, rfl, O, _, _, _, rfl, rfl, SqL.of hO6, offTo_at (by omega), _, _, rfl, rfl, (by show 2 ≤ sizeLine; decide), fun p4 hp4 => ?_⟩)⟩
        have s7 := same_new (o := .tup [V.int (k : Nat), V.int (off (mem ns) rs j - off (mem ns) rs k)]) hp4
        refine ⟨_, s7 _ _ hE6, ?_, fun c o hc e => ?_, ps ++ [p4], ?_, ?_⟩
        · rw [List.length_map]
          exact small1000 (by omega)
        · rw [upd_ne hc]
          exact s7 _ _ (kp2 c o hc e)
        · rw [upd_same, List.map_append]
          rfl
        · rw [tk]
          have e9 : mapD (fun k => V.int (way (mem ns) rs k)) ((inn rs).take i ++ [k]) = mapD (fun k => V.int (way (mem ns) rs k)) ((inn rs).take i) ++ [(Sum.inl ((k : Nat) : Int), V.int (way (mem ns) rs k))] := by
            unfold mapD
            rw [List.map_append]
            rfl
          rw [e9]
          refine Paired.snoc (hps.mono fun p kv h => sqT_put (sqT_same s7 h) (s7 _ _ hE6) trivial) ?_
          have ew : way (mem ns) rs k = off (mem ns) rs j - off (mem ns) rs k := by
            unfold way
            rw [hai]
            rfl
          show SqT K _ p4 [V.int (k : Nat), V.int (way (mem ns) rs k)]
          rw [ew]
          exact sqT_put (SqT.of upd_same) (s7 _ _ hE6) trivial
      · rintro H6 ⟨kp2, ps, hE6, hps⟩
        have s6 := sk2 kp2
        rw [nats_len, List.take_length] at hps
        refine ⟨E2, ps, _, rfl, SqL.of hE6, hps, fun p9 hp9 => ?_⟩
        have em : mergeK [] (mapD (fun k => V.int (way (mem ns) rs k)) (inn rs)) = wayD (mem ns) rs := merge_mapD _ (inn rs) [] (by rw [List.nil_append]; exact inn_nodup rs)
        rw [em]
        have s06 := s05.trans s6
        have hpn : H p9 = none := by
          cases e : H p9 with
          | none => rfl
          | some u => rw [s06 _ _ e] at hp9; cases hp9
        exact q _ p9 (s06.trans (same_new hp9)) hpn upd_same
end

section
variable {P : Program} {w : World} {K : PySem.W.Frag} {mg : Str → Option Value} {base : Heap}
theorem ok_llo {f : Addr} {fd : FuncData} (F : Fun K "_law_long" "_law_long" sLLo f fd) (T : Bi mg) (G1 : Has P w K mg base CX0 2 "_law_ways" ["rows", "far"] (spLWa K)) : FnOk P w K mg base CX0 3 f fd ["rows", "far"] (spLLo K) := by
  refine F.ok scLLo (fun vs H Q E h => ?_) (fun cdv A outer s H vs Q E hr h => ?_)
  · obtain ⟨L, l, xs, rs, ns, rfl, _⟩ := h
    rfl
  · obtain ⟨L, l, xs, rs, ns, rfl, hR, nE, hl, q⟩ := h
    have hu := hu_of hr
    refine ⟨_, (pss_cons (ps_set (i := 2) scLLo.nd rfl (.inr rfl) (pe_callH G1 hr (by rfl) pass0 (pa_cons (pv 0) (pa_cons (pv 1) pa_nil))))
      (pss_one (ps_ret (pe_lock (pe_lc (own := [("k", 3)]) (g := gName 3) (tt := tAnd (tTest (tOp (rIn K true) (tVar 3) (tVar 1))) (tOr (tTest (tOp (rI0 fun i j => .bl (decide (i < j))) (tDGet (tVar 2) (tVar 3)) (tUn (rU fun i => .int (-i)) (tC (.int 256))))) (tTest (tOp (rI0 fun i j => .bl (decide (j < i))) (tDGet (tVar 2) (tVar 3)) (tC (.int 255)))))) (te := tVar 3) rfl scLLo.nd (pi_keys (pv 2)) (blkOk_by (N := ["rows", "far", "gaps", "k"]) (sc := defScope sLLo) (by decide +kernel)) (fun _ _ _ _ _ => pg_name (i := 3) scLLo.nd rfl (.inl rfl))
        (fun _ _ _ _ _ => pts_one (PW.pt (pw_and (pt_cmpR op_notIn_seq (pv 3) (pv 1) (by rfl)) (pw_and1 (PW.pt (pw_or (pt_cmpR op_lt (pe_dget hu (pv 2) (pv 3) (fun _ _ => rfl)) (pe_un un_neg pe_int) (nomark _)) (pw_or1 (pt_cmpR op_gt (pe_dget hu (pv 2) (pv 3) (fun _ _ => rfl)) pe_int (nomark _))))))))) (fun _ _ _ _ _ => (pv 3))))))), ?_⟩
    refine ⟨_, rfl, _, rfl, L, l, xs, rs, ns, rfl, hR, nE, hl, fun H0 d s0 hdn hd => ?_⟩
    refine ⟨d, _, hd, trivial, fun od => ⟨_, rfl, d, od, rfl, .inl ⟨_, upd_same, fun D hD => ?_⟩⟩⟩
    have hDd : D ≠ d := by
      intro z
      rw [z, upd_same] at hD
      cases hD
    have hDn : H0 D = none := by
      rw [upd_ne hDd] at hD
      exact hD
    refine lc_it walk_keys (fun i H1 => (∀ b o, b ≠ D → upd H0 d (.frz od (.dK (wayD (mem ns) rs))) b = some o → H1 b = some o) ∧ H1 D = some (.lst (nats (((inn rs).take i).filter (isLong (mem ns) rs)))))
      ⟨fun b o hb e => by rw [upd_ne hb]; exact e, upd_same⟩ (fun i H1 _ ⟨kp, _⟩ => kp _ _ hDd.symm upd_same) ?_ ?_
    · rintro i x H1 H1' hi ⟨kp, hD1⟩ ⟨rfl, k, v, hk, rfl⟩
      obtain ⟨kk, hkk, hk2⟩ : ∃ kk, (inn rs)[i]? = some kk ∧ (k, v) = (Sum.inl (kk : Int), V.int (way (mem ns) rs kk)) := by
        unfold wayD mapD at hk
        rw [List.getElem?_map] at hk
        cases e : (inn rs)[i]? with
        | none => rw [e] at hk; cases hk
        | some kk =>
          rw [e] at hk
          exact ⟨kk, rfl, (Option.some.inj hk).symm⟩
      cases hk2
      have hmem := List.mem_of_getElem? hkk
      have hd1 : H1' d = some (.frz od (.dK (wayD (mem ns) rs))) := kp _ _ hDd.symm upd_same
      have keepR : ∀ {u : HO}, (∀ kv, u ≠ .dK kv) → Rd H0 l u → Rd H1' l u := fun {u} nd h => by
        rcases h with h | ⟨o, h⟩
        · refine .inl (kp _ _ (ne_of_none h hDn) ?_)
          rw [upd_ne (ne_of h hd (nd _))]
          exact h
        · refine .inr ⟨o, kp _ _ (ne_of_none h hDn) ?_⟩
          rw [upd_ne (ne_of h hd (by intro z; cases z))]
          exact h
      have hl1 : SqL K H1' l (ns.map V.int) ∨ SqT K H1' l (ns.map V.int) := by
        rcases hl with hl | hl
        · rcases sqL_same s0 hl with hq | hq
          · exact .inl (.inl (keepR (by intro kv z; cases z) hq))
          · exact .inl (.inr hq)
        · rcases sqT_same s0 hl with hq | hq
          · exact .inr (.inl (keepR (by intro kv z; cases z) hq))
          · exact .inr (.inr hq)
      have hg : DGet H1' d (.int (kk : Nat)) (some (.int (way (mem ns) rs kk))) := by
        refine .inl ⟨wayD (mem ns) rs, Sum.inl (kk : Int), .inr ⟨od, hd1⟩, rfl, ?_⟩
        unfold wayD
        rw [mapD_val, if_pos hmem]
      have tk : (inn rs).take (i + 1) = (inn rs).take i ++ [kk] := by
        rw [List.take_add_one, hkk]
        rfl
      have end1 : isLong (mem ns) rs kk = true → ∃ acc, H1' D = some (.lst acc) ∧ acc.length < sizeLine ∧ ((∀ b o, b ≠ D → upd H0 d (.frz od (.dK (wayD (mem ns) rs))) b = some o → upd H1' D (.lst (acc ++ [V.int (kk : Int)])) b = some o) ∧ upd H1' D (.lst (acc ++ [V.int (kk : Int)])) D = some (.lst (nats (((inn rs).take (i + 1)).filter (isLong (mem ns) rs))))) := by
        intro hlg
        refine ⟨_, hD1, ?_, fun b o hb e => ?_, ?_⟩
        · rw [nats_len]
          have h1 : (((inn rs).take i).filter (isLong (mem ns) rs)).length ≤ ((inn rs).take i).length := List.length_filter_le _ _
          have h2 : ((inn rs).take i).length ≤ (inn rs).length := by rw [List.length_take]; omega
          have h3 := inn_len rs
          have h4 := hR.len
          exact small1000 (by omega)
        · rw [upd_ne hb]
          exact kp b o hb e
        · rw [upd_same, tk, List.filter_append, nats_app]
          have z : [kk].filter (isLong (mem ns) rs) = [kk] := by simp [List.filter, hlg]
          rw [z]
          rfl
      have end0 : isLong (mem ns) rs kk = false → (∀ b o, b ≠ D → upd H0 d (.frz od (.dK (wayD (mem ns) rs))) b = some o → H1' b = some o) ∧ H1' D = some (.lst (nats (((inn rs).take (i + 1)).filter (isLong (mem ns) rs)))) := by
        intro hlg
        refine ⟨kp, ?_⟩
        rw [tk, List.filter_append]
        have z : [kk].filter (isLong (mem ns) rs) = [] := by simp [List.filter, hlg]
        rw [z, List.append_nil]
        exact hD1
      refine ⟨rfl, _, rfl, _, rfl, l, _, rfl, hl1, rfl, flat_ints ns, _, rfl, ?_⟩
      show if (!inV (.int (kk : Int)) (ns.map V.int)) = true then _ else _
      rw [inV_ints]
      have em : decide ((kk : Int) ∈ ns) = mem ns (kk : Int) := rfl
      rw [em]
      unfold isLong tooL at end1 end0
      cases c : mem ns (kk : Int) with
      | true =>
        rw [c] at end0
        exact iteF (iteF (end0 rfl))
      | false =>
        rw [c] at end0 end1
        refine iteT ⟨_, rfl, _, rfl, d, _, rfl, hg, _, rfl, _, _, rfl, rfl, _, rfl, ?_⟩
        cases c2 : decide (way (mem ns) rs kk < -256) with
        | true =>
          rw [c2] at end1
          exact iteT (iteT ⟨_, rfl, end1 rfl⟩)
        | false =>
          rw [c2] at end0 end1
          refine iteF ⟨_, rfl, _, rfl, d, _, rfl, hg, _, _, rfl, rfl, _, rfl, ?_⟩
          cases c3 : decide (255 < way (mem ns) rs kk) with
          | true =>
            have c3' : decide (way (mem ns) rs kk > 255) = true := c3
            rw [c3'] at end1
            exact iteT ⟨_, rfl, end1 rfl⟩
          | false =>
            have c3' : decide (way (mem ns) rs kk > 255) = false := c3
            rw [c3'] at end0
            exact iteF (end0 rfl)
    · rintro H1 ⟨kp, hD1⟩
      have tl : (inn rs).take (wayD (mem ns) rs).length = inn rs := by
        unfold wayD
        rw [mapD_len]
        exact List.take_length
      rw [tl] at hD1
      have hd1 : H1 d = some (.frz od (.dK (wayD (mem ns) rs))) := kp _ _ hDd.symm upd_same
      refine ⟨hd1, q _ D (s0.trans (same_unlock hd hDn kp)) ?_ ?_⟩
      · cases e : H D with
        | none => rfl
        | some o => rw [s0 _ _ e] at hDn; cases hDn
      · rw [upd_ne hDd]
        exact hD1
end

abbrev sSame : Stmt := topS 55
theorem scSame : FnScope ["found", "due", "u", "v"] ["found", "due"] (defScope sSame) := ⟨rfl, rfl, rfl, by decide +kernel, rfl, by decide +kernel, by decide +kernel⟩
theorem smallB {n : Nat} (h : n ≤ 200000) : n < sizeLine := Nat.lt_of_le_of_lt h (by decide)
/-- two values that are held to be the same; d tells their kind -/
inductive SmR (K : PySem.W.Frag) (R : Hp → V → V → Prop) (H : Hp) : V → V → PyData → Prop
  | non : SmR K R H .non .non .none
  | int (i : Int) : SmR K R H (.int i) (.int i) (.int 0)
  | bl (b : Bool) : SmR K R H (.bl b) (.bl b) (.bool true)
  | str (z : Str) : SmR K R H (.str z) (.str z) (.str "a")
  | dct {a : Addr} : H a = some (.dK []) → SmR K R H (.ref a) (.ref a) (.dict [])
  | lst {a b : Addr} {xs ys : List V} : SqL K H a xs → SqL K H b ys → xs.length = ys.length → xs.length ≤ 200000 → (∀ H', Same H H' → ∀ (i : Nat) x y, xs[i]? = some x → ys[i]? = some y → R H' x y) → SmR K R H (.ref a) (.ref b) (.list [])
  | tup {a b : Addr} {xs ys : List V} : SqT K H a xs → SqT K H b ys → xs.length = ys.length → xs.length ≤ 200000 → (∀ H', Same H H' → ∀ (i : Nat) x y, xs[i]? = some x → ys[i]? = some y → R H' x y) → SmR K R H (.ref a) (.ref b) (.tuple [])
theorem SmR.same {K : PySem.W.Frag} {R : Hp → V → V → Prop} {H H' : Hp} {v u : V} {d : PyData} (e : Same H H') (h : SmR K R H v u d) : SmR K R H' v u d := by
  cases h with
  | non => exact .non
  | int i => exact .int i
  | bl b => exact .bl b
  | str z => exact .str z
  | dct h => exact .dct (e _ _ h)
  | lst h1 h2 h3 h4 h5 => exact .lst (sqL_same e h1) (sqL_same e h2) h3 h4 fun H2 e2 => h5 H2 (e.trans e2)
  | tup h1 h2 h3 h4 h5 => exact .tup (sqT_same e h1) (sqT_same e h2) h3 h4 fun H2 e2 => h5 H2 (e.trans e2)
theorem SmR.ty {K : PySem.W.Frag} {R : Hp → V → V → Prop} {H : Hp} {v u : V} {d : PyData} (h : SmR K R H v u d) : TyX K H v (.type (tyN d)) ∧ TyX K H u (.type (tyN d)) := by
  cases h with
  | non => exact ⟨.base .non, .base .non⟩
  | int i => exact ⟨.base (.int i), .base (.int i)⟩
  | bl b => exact ⟨.base (.bl b), .base (.bl b)⟩
  | str z => exact ⟨.base (.str z), .base (.str z)⟩
  | dct h => exact ⟨.base (.dK h), .base (.dK h)⟩
  | lst h1 h2 => exact ⟨ty_list h1, ty_list h2⟩
  | tup h1 h2 => exact ⟨ty_tup h1, ty_tup h2⟩
def SmRel (K : PySem.W.Frag) : Nat → Hp → V → V → Prop
  | 0 => fun _ _ _ => False
  | n + 1 => fun H v u => ∃ d, SmR K (SmRel K n) H v u d
def spSame (K : PySem.W.Frag) (n : Nat) : Sp := fun vs H Q _ => ∃ v u, vs = [v, u] ∧ SmRel K n H v u ∧ ∀ H', Same H H' → Q (.bl true) H'
abbrev gUV (K : PySem.W.Frag) : TG := gTup K 2 (gCons (gName 2) (gCons (gName 3) gNil))
section
variable {P : Program} {w : World} {K : PySem.W.Frag} {mg : Str → Option Value} {base : Heap}
theorem kit_list1 {K : PySem.W.Frag} (d : PyData) : PySem.W.kitOne K (.type (tyN d)) (.type "list") = some (tyN d == "list") := kit_ty (kb_list _ (tyN_mem d))
theorem kit_tup1 {K : PySem.W.Frag} (d : PyData) : PySem.W.kitOne K (.type (tyN d)) (.type "tuple") = some (tyN d == "tuple") := kit_ty (kb_tup _ (tyN_mem d))
theorem kit_lt {K : PySem.W.Frag} (d : PyData) : PySem.W.kitAny K (.type (tyN d)) [.type "int", .type "list", .type "tuple"] = some (isIB d || isR d) := by
  have h0 := kb_int _ (tyN_mem d)
  have h1 := kb_list _ (tyN_mem d)
  have h2 := kb_tup _ (tyN_mem d)
  refine kitAny_cons (kit_ty h0) (fun z0 => kitAny_cons (kit_ty h1) (fun z => kitAny_cons (kit_ty h2) (fun z2 => ?_) fun z2 => ?_) fun z => ?_) fun z0 => ?_
  all_goals
    try revert z0
    try revert z
    try revert z2
    cases d <;> simp [tyN, isR, isIB, kitAny_nil]
theorem same_core {J : It} {n m : Nat} {G : Hp → Prop} {xs ys : List V} {σ : L2.St} {H1 : Hp} {D : Addr} {Q : VK} {x0 x1 : Option V} (hσ : σ = [x0, x1, none, none])
    (wk : Walk J n G (YPair (fun i => xs[i]?) (fun i => ys[i]?))) (hn : n = xs.length) (hl : xs.length ≤ 200000) (rel : ∀ H', Same H1 H' → ∀ (i : Nat) x y, xs[i]? = some x → ys[i]? = some y → SmRel K m H' x y) (hG : ∀ H4, (∀ b o, b ≠ D → H1 b = some o → H4 b = some o) → G H4) (hD : H1 D = none)
    (q : ∀ H' p, Same H1 H' → H' p = some (.lst ((List.replicate xs.length true).map V.bl)) → Q (.ref p) H') : LcW J (gUV K) tYes (tCall (spSame K m) [] E00 (tCons (tVar 2) (tCons (tVar 3) tNil))) [2, 3] σ H1 D (fun H' => Q (.ref D) H') := by
  subst hσ
  refine lc_it wk (fun i H4 => (∀ b o, b ≠ D → H1 b = some o → H4 b = some o) ∧ H4 D = some (.lst ((List.replicate i true).map V.bl))) ⟨fun b o hb e => by rw [upd_ne hb]; exact e, by rw [upd_same]; rfl⟩ (fun i H4 _ ⟨kp, _⟩ => hG H4 kp) ?_ ?_
  · rintro i x H4 H4' hi ⟨kp, hD4⟩ ⟨TT, x', y', rfl, hT, rfl, hx', hy'⟩
    have s4 : Same H1 H4 := fun b o e => kp b o (ne_of_none e hD) e
    have s5 := s4.trans (same_new (o := .tup [x', y']) hT)
    refine ⟨TT, _, rfl, SqT.of upd_same, rfl, _, _, rfl, _, _, rfl, rfl, rfl, ?_⟩
    refine yes_go (iteT ⟨_, rfl, _, rfl, x', y', rfl, rel _ s5 i x' y' hx' hy', fun H5 s6 => ⟨_, s6 _ _ ((same_new (o := .tup [x', y']) hT) _ _ hD4), ?_, fun b o hb e => ?_, ?_⟩⟩)
    · rw [List.length_map, List.length_replicate]
      exact smallB (by omega)
    · rw [upd_ne hb]
      exact s6 _ _ ((same_new (o := .tup [x', y']) hT) _ _ (kp b o hb e))
    · rw [upd_same, List.replicate_succ', List.map_append]
      rfl
  · rintro H4 ⟨kp, hD4⟩
    rw [hn] at hD4
    exact q H4 D (fun b o e => kp b o (ne_of_none e hD) e) hD4
theorem rep_all (n : Nat) : (List.replicate n true).all id = true := by
  rw [List.all_eq_true]
  intro x hx
  rw [(List.mem_replicate.mp hx).2]
  rfl
theorem bb_ne {b : Bool} {A B : Prop} (h : B) : if (!decide (V.bl b = V.bl b)) = true then A else B := by
  rw [decide_eq_true rfl]
  exact h
theorem ok_same {f : Addr} {fd : FuncData} {n k : Nat} (F : Fun K "_law_same" "_law_same" sSame f fd) (T : Bi mg) (G : Has P w K mg base CX0 k "_law_same" ["found", "due"] (spSame K n)) : FnOk P w K mg base CX0 (k + 1) f fd ["found", "due"] (spSame K (n + 1)) := by
  refine F.ok scSame (fun vs H Q E h => ?_) (fun cdv A outer s H vs Q E hr h => ?_)
  · obtain ⟨v, u, rfl, _⟩ := h
    rfl
  · obtain ⟨v, u, rfl, ⟨d, sm⟩, q⟩ := h
    have huc : (A.deeper (envOfC "_law_same" (defScope sSame) s.heap.objs.size f cdv)).units < cLine := by
      have := hr.units
      omega
    have hu65' := hu65 hr
    refine ⟨_, (pss_cons (ps_if (pt_val (pe_callB call_isiT (by rfl) T.isinstance (by decide +kernel) (pa_cons (pv 1) (pa_cons (pe_tup (pa_cons (pe_bltn (v := .ty "list") (by rfl) T.list (by decide +kernel) rfl) (pa_cons (pe_bltn (v := .ty "tuple") (by rfl) T.tuple (by decide +kernel) rfl) pa_nil))) pa_nil)))) (pss_cons (ps_if (PW.pt (pw_or (pt_cmpR op_ne (pe_callB call_isi (by rfl) T.isinstance (by decide +kernel) (pa_cons (pv 0) (pa_cons (pe_bltn (v := .ty "list") (by rfl) T.list (by decide +kernel) rfl) pa_nil))) (pe_callB call_isi (by rfl) T.isinstance (by decide +kernel) (pa_cons (pv 1) (pa_cons (pe_bltn (v := .ty "list") (by rfl) T.list (by decide +kernel) rfl) pa_nil))) (nomark _)) (pw_or1 (pt_cmpR op_ne (pe_callB call_isi (by rfl) T.isinstance (by decide +kernel) (pa_cons (pv 0) (pa_cons (pe_bltn (v := .ty "tuple") (by rfl) T.tuple (by decide +kernel) rfl) pa_nil))) (pe_callB call_isi (by rfl) T.isinstance (by decide +kernel) (pa_cons (pv 1) (pa_cons (pe_bltn (v := .ty "tuple") (by rfl) T.tuple (by decide +kernel) rfl) pa_nil))) (nomark _))))) (pss_one (ps_ret pe_bl)) pss_nil)
      (pss_one (ps_ret (pe_and (pe_cmpR op_eq (pe_callB call_len_seq (by rfl) T.len (by decide +kernel) (pa_cons (pv 0) pa_nil)) (pe_callB call_len_seq (by rfl) T.len (by decide +kernel) (pa_cons (pv 1) pa_nil)) (nomark _)) (pe_one (pe_callB (cr_all rfl) (by rfl) T.all (by decide +kernel) (pa_cons (pe_lc (own := [("u", 2), ("v", 3)]) (g := gUV K) (tt := tYes) (te := tCall (spSame K n) [] E00 (tCons (tVar 2) (tCons (tVar 3) tNil))) rfl scSame.nd (RZ.pi_zipA (by rfl) T.zip (pa_cons (pv 0) (pa_cons (pv 1) pa_nil))) (blkOk_by (N := ["found", "due", "u", "v"]) (sc := defScope sSame) (by decide +kernel)) (fun _ _ _ _ _ => (pg_tup rfl (pgs_cons (pg_name (i := 2) scSame.nd rfl (.inl rfl) (.inr rfl)) (pgs_cons (pg_name (i := 3) scSame.nd rfl (.inl rfl) (.inr rfl)) pgs_nil)))) (fun _ _ _ _ _ => pts_nil) (fun _ _ _ _ _ => (pe_callH G hr (by rfl) pass0 (pa_cons (pv 2) (pa_cons (pv 3) pa_nil))))) pa_nil))))))) pss_nil)
      (pss_cons (ps_if (pt_val (pe_callB call_isi (by rfl) T.isinstance (by decide +kernel) (pa_cons (pv 1) (pa_cons (pe_bltn (v := .ty "int") (by rfl) T.int (by decide +kernel) rfl) pa_nil)))) (pss_one (ps_ret (pe_and (pe_callB call_isi (by rfl) T.isinstance (by decide +kernel) (pa_cons (pv 0) (pa_cons (pe_bltn (v := .ty "int") (by rfl) T.int (by decide +kernel) rfl) pa_nil))) (pe_and (pe_cmpR op_eq (pe_callB call_isi (by rfl) T.isinstance (by decide +kernel) (pa_cons (pv 0) (pa_cons (pe_bltn (v := .ty "bool") (by rfl) T.bool (by decide +kernel) rfl) pa_nil))) (pe_callB call_isi (by rfl) T.isinstance (by decide +kernel) (pa_cons (pv 1) (pa_cons (pe_bltn (v := .ty "bool") (by rfl) T.bool (by decide +kernel) rfl) pa_nil))) (nomark _)) (pe_one (pe_cmpR op_eq (pv 0) (pv 1) (nomark _))))))) pss_nil)
      (pss_one (ps_ret (pe_and (pe_cmpR op_isBl (pe_callB call_isiT (by rfl) T.isinstance (by decide +kernel) (pa_cons (pv 0) (pa_cons (pe_tup (pa_cons (pe_bltn (v := .ty "int") (by rfl) T.int (by decide +kernel) rfl) (pa_cons (pe_bltn (v := .ty "list") (by rfl) T.list (by decide +kernel) rfl) (pa_cons (pe_bltn (v := .ty "tuple") (by rfl) T.tuple (by decide +kernel) rfl) pa_nil)))) pa_nil))) pe_bl (nomark _)) (pe_one (pe_cmpR (op_eq.or (op_eq_dictA huc)) (pv 0) (pv 1) (nomark _)))))))), ?_⟩
    refine ⟨_, rfl, (by show 2 ≤ sizeLine; decide), fun p hp => ?_⟩
    have s1 := same_new (o := .tup [V.ty "list", V.ty "tuple"]) hp
    have sm1 := sm.same s1
    refine ⟨u, p, _, _, _, _, rfl, upd_same, .cons (.ty "list") (.cons (.ty "tuple") .nil), sm1.ty.2, kit_row d, _, rfl, ?_⟩
    generalize hH1 : upd H p (.tup [V.ty "list", V.ty "tuple"]) = H1 at s1 sm1
    have ways : (∃ (a b : Addr) (xs ys : List V), isR d = true ∧ v = .ref a ∧ u = .ref b ∧ ((SqL K H1 a xs ∧ SqL K H1 b ys) ∨ (SqT K H1 a xs ∧ SqT K H1 b ys)) ∧ xs.length = ys.length ∧ xs.length ≤ 200000 ∧ (∀ H', Same H1 H' → ∀ (i : Nat) x y, xs[i]? = some x → ys[i]? = some y → SmRel K n H' x y)) ∨ isR d = false := by
      cases sm1 with
      | lst h1 h2 h3 h4 h5 => exact .inl ⟨_, _, _, _, rfl, rfl, rfl, .inl ⟨h1, h2⟩, h3, h4, h5⟩
      | tup h1 h2 h3 h4 h5 => exact .inl ⟨_, _, _, _, rfl, rfl, rfl, .inr ⟨h1, h2⟩, h3, h4, h5⟩
      | _ => exact .inr rfl
    rcases ways with ⟨a, b, xs, ys, hR, rfl, rfl, hs, hlen, l9, rel⟩ | hR
    · rw [hR]
      obtain ⟨tv, tu⟩ := sm1.ty
      refine iteT ⟨_, rfl, .ref a, _, _, _, _, rfl, .ty "list", tv, kit_list1 d, _, rfl, .ref b, _, _, _, _, rfl, .ty "list", tu, kit_list1 d, rfl, _, rfl, ?_⟩
      refine bb_ne ⟨_, rfl, .ref a, _, _, _, _, rfl, .ty "tuple", tv, kit_tup1 d, _, rfl, .ref b, _, _, _, _, rfl, .ty "tuple", tu, kit_tup1 d, rfl, _, rfl, ?_⟩
      refine bb_ne ⟨_, rfl, a, xs, rfl, hs.elim (fun h => .inl h.1) (fun h => .inr h.1), _, rfl, b, ys, rfl, hs.elim (fun h => .inl h.2) (fun h => .inr h.2), rfl, _, rfl, ?_⟩
      rw [hlen, decide_eq_true rfl]
      have fin : ∀ H' p, Same H1 H' → H' p = some (.lst ((List.replicate xs.length true).map V.bl)) → rAll K [.ref p] H' Q := fun H' p sm hp => by
        refine ⟨p, _, rfl, SqL.of hp, ?_⟩
        rw [rep_all]
        exact q H' (s1.trans sm)
      rcases hs with ⟨h1, h2⟩ | ⟨h1, h2⟩
      · refine iteT ⟨_, rfl, _, rfl, a, b, xs, ys, rfl, .inl ⟨h1, h2, fun D hD => ?_⟩⟩
        exact same_core (Q := fun v H' => rAll K [v] H' Q) rfl (walk_zip (n := xs.length) (by rw [hlen]; exact (Nat.min_self _).symm)) rfl l9 rel (fun H4 kp => ⟨sqL_same (fun b o e => kp b o (ne_of_none e hD) e) h1, sqL_same (fun b o e => kp b o (ne_of_none e hD) e) h2⟩) hD fin
      · refine iteT ⟨_, rfl, _, rfl, a, b, xs, ys, rfl, .inr ⟨h1, h2, fun D hD => ?_⟩⟩
        exact same_core (Q := fun v H' => rAll K [v] H' Q) rfl (walk_zipT (n := xs.length) (by rw [hlen]; exact (Nat.min_self _).symm)) rfl l9 rel (fun H4 kp => ⟨sqT_same (fun b o e => kp b o (ne_of_none e hD) e) h1, sqT_same (fun b o e => kp b o (ne_of_none e hD) e) h2⟩) hD fin
    cases sm1 with
    | lst h1 h2 h3 h4 h5 => cases hR
    | tup h1 h2 h3 h4 h5 => cases hR
    | int i =>
      refine iteF ⟨_, rfl, _, _, _, _, _, rfl, .ty "int", .base (.int i), kit_int (.int 0), _, rfl, ?_⟩
      refine iteT ⟨_, rfl, _, _, _, _, _, rfl, .ty "int", .base (.int i), kit_int (.int 0), _, rfl, ?_⟩
      refine iteT ⟨_, rfl, _, _, _, _, _, rfl, .ty "bool", .base (.int i), kit_bool (.int 0), _, rfl, _, _, _, _, _, rfl, .ty "bool", .base (.int i), kit_bool (.int 0), rfl, _, rfl, ?_⟩
      rw [decide_eq_true rfl]
      refine iteT ⟨_, rfl, _, rfl, rfl, ?_⟩
      rw [decide_eq_true rfl]
      exact q H1 s1
    | bl z =>
      refine iteF ⟨_, rfl, _, _, _, _, _, rfl, .ty "int", .base (.bl z), kit_int (.bool true), _, rfl, ?_⟩
      refine iteT ⟨_, rfl, _, _, _, _, _, rfl, .ty "int", .base (.bl z), kit_int (.bool true), _, rfl, ?_⟩
      refine iteT ⟨_, rfl, _, _, _, _, _, rfl, .ty "bool", .base (.bl z), kit_bool (.bool true), _, rfl, _, _, _, _, _, rfl, .ty "bool", .base (.bl z), kit_bool (.bool true), rfl, _, rfl, ?_⟩
      rw [decide_eq_true rfl]
      refine iteT ⟨_, rfl, _, rfl, rfl, ?_⟩
      rw [decide_eq_true rfl]
      exact q H1 s1
    | str z =>
      refine iteF ⟨_, rfl, _, _, _, _, _, rfl, .ty "int", .base (.str z), kit_int (.str "a"), _, rfl, ?_⟩
      refine iteF ⟨_, rfl, (by show 3 ≤ sizeLine; decide), fun p2 hp2 => ?_⟩
      have s2 := same_new (o := .tup [V.ty "int", V.ty "list", V.ty "tuple"]) hp2
      refine ⟨_, p2, _, _, _, _, rfl, upd_same, .cons (.ty "int") (.cons (.ty "list") (.cons (.ty "tuple") .nil)), .base (.str z), kit_lt (.str "a"), _, _, rfl, rfl, _, rfl, ?_⟩
      refine iteT ⟨_, rfl, _, rfl, .inl ⟨rfl, ?_⟩⟩
      rw [decide_eq_true rfl]
      exact q _ (s1.trans s2)
    | non =>
      refine iteF ⟨_, rfl, _, _, _, _, _, rfl, .ty "int", .base .non, kit_int .none, _, rfl, ?_⟩
      refine iteF ⟨_, rfl, (by show 3 ≤ sizeLine; decide), fun p2 hp2 => ?_⟩
      have s2 := same_new (o := .tup [V.ty "int", V.ty "list", V.ty "tuple"]) hp2
      refine ⟨_, p2, _, _, _, _, rfl, upd_same, .cons (.ty "int") (.cons (.ty "list") (.cons (.ty "tuple") .nil)), .base .non, kit_lt .none, _, _, rfl, rfl, _, rfl, ?_⟩
      refine iteT ⟨_, rfl, _, rfl, .inl ⟨rfl, ?_⟩⟩
      rw [decide_eq_true rfl]
      exact q _ (s1.trans s2)
    | dct h =>
      rename_i a
      refine iteF ⟨_, rfl, _, _, _, _, _, rfl, .ty "int", .base (.dK h), kit_int (.dict []), _, rfl, ?_⟩
      refine iteF ⟨_, rfl, (by show 3 ≤ sizeLine; decide), fun p2 hp2 => ?_⟩
      have s2 := same_new (o := .tup [V.ty "int", V.ty "list", V.ty "tuple"]) hp2
      have h2 := s2 _ _ h
      refine ⟨_, p2, _, _, _, _, rfl, upd_same, .cons (.ty "int") (.cons (.ty "list") (.cons (.ty "tuple") .nil)), .base (.dK h2), kit_lt (.dict []), _, _, rfl, rfl, _, rfl, ?_⟩
      refine iteT ⟨_, rfl, _, rfl, .inr ⟨a, a, [], [], rfl, rfl, h2, h2, rfl, (fun p hp => absurd hp (by simp)), ?_⟩⟩
      exact q _ (s1.trans s2)
theorem ok_same0 {f : Addr} {fd : FuncData} (F : Fun K "_law_same" "_law_same" sSame f fd) : FnOk P w K mg base CX0 1 f fd ["found", "due"] (spSame K 0) := by
  refine F.ok scSame (fun vs H Q E h => ?_) (fun cdv A outer s H vs Q E hr h => ?_)
  · obtain ⟨v, u, rfl, _⟩ := h
    rfl
  · obtain ⟨v, u, rfl, z, _⟩ := h
    exact absurd z id
end

theorem eqv_int (a b : Int) : PyData.eqv (.int a) (.int b) = decide (a = b) := by
  rw [PyData.eqv]
  by_cases h : a = b
  · subst h; simp
  · simp [h]
theorem eqv_ints : ∀ a b : List Int, PyData.eqv (.list (a.map .int)) (.list (b.map .int)) = decide (a = b)
  | [], [] => by simp [PyData.eqv, PyData.eqvAll]
  | [], _ :: _ => by simp [PyData.eqv, PyData.eqvAll]
  | _ :: _, [] => by simp [PyData.eqv, PyData.eqvAll]
  | x :: a, y :: b => by
    have ih := eqv_ints a b
    rw [PyData.eqv] at ih ⊢
    rw [List.map_cons, List.map_cons, PyData.eqvAll, ih, eqv_int]
    by_cases h : x = y
    · subst h; simp
    · simp [h]
theorem ints_lay : ∀ ks : List Int, PyData.canLayAll0 (ks.map .int) = true
  | [] => rfl
  | k :: ks => by
    rw [List.map_cons]
    simp [PyData.canLayAll0, PyData.canLay0, ints_lay ks]
theorem ints_depth : ∀ ks : List Int, PyData.depthAll (ks.map .int) ≤ 5
  | [] => by simp [PyData.depthAll]
  | k :: ks => by
    have h := ints_depth ks
    have h2 : (PyData.int k).depth ≤ 5 := by simp [PyData.depth]
    rw [List.map_cons]
    simp only [PyData.depthAll]
    omega
theorem ints_shaped (ks : List Int) : SeqAt.shaped (.list (ks.map .int)) = true := by
  unfold SeqAt.shaped
  have h := ints_depth ks
  have h1 := ints_lay ks
  rw [Bool.and_eq_true]
  refine ⟨by simpa [PyData.canLay0] using h1, decide_eq_true ?_⟩
  simp only [PyData.depth]
  omega
theorem dp_ints {K : PySem.W.Frag} {H : Hp} {a : Addr} {ks : List Int} (h : SqL K H a (ks.map V.int)) : Dp K H (.ref a) (.list (ks.map .int)) := .lst h (dps_ints ks)
/-! ### the law's grown -/
abbrev sLGr : Stmt := topS 63
theorem scLGr : FnScope ["rows", "far"] ["rows"] (defScope sLGr) := ⟨rfl, rfl, rfl, by decide +kernel, rfl, by decide +kernel, by decide +kernel⟩
def spLGr (K : PySem.W.Frag) : Sp := fun vs H Q _ => ∃ (L : Addr) (xs : List V) (rs : List Row), vs = [.ref L] ∧ LRows K H L xs rs ∧ rs.length ≤ 20 ∧ (∀ r ∈ rs, RowOk r) ∧ ∀ H' p g, Same H H' → SqT K H' p (g.map V.int) → Grown rs g → Q (.ref p) H'
section
variable {P : Program} {w : World} {K : PySem.W.Frag} {mg : Str → Option Value} {base : Heap}
theorem ok_lgr {f : Addr} {fd : FuncData} (F : Fun K "_law_grown" "_law_grown" sLGr f fd) (T : Bi mg) (G1 : Has P w K mg base CX0 3 "_law_outs" ["rows"] (spLOu K)) (G2 : Has P w K mg base CX0 3 "_law_long" ["rows", "far"] (spLLo K)) : FnOk P w K mg base CX0 4 f fd ["rows"] (spLGr K) := by
  refine F.ok scLGr (fun vs H Q E h => ?_) (fun cdv A outer s H vs Q E hr h => ?_)
  · obtain ⟨L, xs, rs, rfl, _⟩ := h
    rfl
  · obtain ⟨L, xs, rs, rfl, hR, hl20, nE, q⟩ := h
    have hu64 := hr.units
    refine ⟨_, (pss_cons (ps_set (i := 1) scLGr.nd rfl (.inl rfl) (pe_callH G1 hr (by rfl) pass0 (pa_cons (pv 0) pa_nil)))
      (pss_cons (ps_while PassesOwn.never (pt_cmpR (op_neD hu64) (pe_callH G2 hr (by rfl) pass0 (pa_cons (pv 0) (pa_cons (pv 1) pa_nil))) (pe_lst pa_nil) (nomark _)) (pss_one (ps_set (i := 1) scLGr.nd rfl (.inl rfl) (pe_callB cr_sortedQ (by rfl) T.sorted (by decide +kernel) (pa_cons (pe_op op_cat (pv 1) (pe_callH G2 hr (by rfl) pass0 (pa_cons (pv 0) (pa_cons (pv 1) pa_nil)))) pa_nil)))))
      (pss_one (ps_ret (pe_callTy call_tuple_of (by rfl) T.tuple (by decide +kernel) (pa_cons (pv 1) pa_nil)))))), ?_⟩
    refine ⟨_, rfl, L, xs, rs, rfl, hR, fun H1 O s1 _ hO => ?_⟩
    have il := inn_len rs
    have ol := outs_len rs
    refine ⟨fun m σ H4 => ∃ (a : Addr) (fs : List Int) (n : Nat), σ = [some (.ref L), some (.ref a)] ∧ Same H H4 ∧ H4 a = some (.lst (fs.map V.int)) ∧ fs.Perm (zs (outs rs ++ fars rs n)) ∧ fs.Pairwise (· ≤ ·) ∧ m = (rem rs (fars rs n)).length, ⟨_, O, zs (outs rs), 0, rfl, s1, by rw [hO, nats_zs], ?_, outs_sorted rs, rfl⟩, ?_⟩
    · show (zs (outs rs)).Perm (zs (outs rs ++ []))
      rw [List.append_nil]
    · rintro m σ H4 ⟨a, fs, n, rfl, s4, ha, pm, srt, rfl⟩
      refine ⟨_, rfl, _, rfl, L, a, xs, rs, fs, rfl, hR.same s4, nE, .inl (SqL.of ha), fun H5 p s5 _ hp => ⟨Nat.zero_le _, fun p2 hp2 => ?_⟩⟩
      have elg : long (mem fs) rs = long (fN (outs rs ++ fars rs n)) rs := by rw [mem_perm pm]; rfl
      rw [elg] at hp
      have s6 := s5.trans (same_new (o := .lst []) hp2)
      have hp6 := (same_new (o := .lst []) hp2) _ _ hp
      refine ⟨.list ((zs (long (fN (outs rs ++ fars rs n)) rs)).map .int), .list (([] : List Int).map .int), dp_ints (SqL.of (by rw [hp6, nats_zs])), .lst (SqL.of upd_same) .nil, ints_shaped _, ints_shaped [], _, rfl, ?_⟩
      rw [eqv_ints]
      have s46 := s4.trans s6
      have fl := fars_len rs n
      have ll : (long (fN (outs rs ++ fars rs n)) rs).length ≤ (inn rs).length := List.length_filter_le _ _
      have fsl : fs.length ≤ 40 := by
        rw [pm.length_eq, zs_len, List.length_append]
        omega
      by_cases hlg : zs (long (fN (outs rs ++ fars rs n)) rs) = []
      · rw [decide_eq_true hlg]
        have hlg' : long (fN (outs rs ++ fars rs n)) rs = [] := List.map_eq_nil_iff.mp hlg
        have ha6 := s6 _ _ ha
        exact iteF ⟨_, rfl, a, _, rfl, .inl ⟨SqL.of ha6, fun l hl => q _ l fs (s46.trans (same_new hl)) (SqT.of upd_same) ⟨n, pm, srt, hlg'⟩⟩⟩
      · rw [decide_eq_false hlg]
        refine iteT ⟨fun σ' H' => ∃ m', m' < (rem rs (fars rs n)).length ∧ ∃ (a : Addr) (fs : List Int) (n : Nat), σ' = [some (.ref L), some (.ref a)] ∧ Same H H' ∧ H' a = some (.lst (fs.map V.int)) ∧ fs.Perm (zs (outs rs ++ fars rs n)) ∧ fs.Pairwise (· ≤ ·) ∧ m' = (rem rs (fars rs n)).length, fun σ' H' h => h, ?_⟩
        refine ⟨_, rfl, _, rfl, _, rfl, L, a, xs, rs, fs, rfl, hR.same s46, nE, .inl (SqL.of (s6 _ _ ha)), fun H7 p3 s7 _ hp3 => ?_⟩
        rw [elg] at hp3
        have ha7 := s7 _ _ (s6 _ _ ha)
        refine ⟨a, p3, _, _, rfl, rfl, ha7, hp3, ?_, fun p4 hp4 => ?_⟩
        · rw [nats_len, List.length_map]
          have : fs.length + (long (fN (outs rs ++ fars rs n)) rs).length ≤ 1000 := by omega
          exact Nat.le_trans this (by decide)
        refine ⟨p4, fs ++ zs (long (fN (outs rs ++ fars rs n)) rs), rfl, .inl (SqL.of (by rw [upd_same, nats_zs, List.map_append])), ?_, fun ns' p5 pm' srt' hp5 => ?_⟩
        · rw [List.length_append, zs_len]
          omega
        have nx := rem_next rs (fars rs n)
        have lpos : 0 < (long (fN (outs rs ++ fars rs n)) rs).length := by
          refine List.length_pos_iff.mpr fun z => hlg ?_
          rw [z]
          rfl
        refine ⟨(rem rs (fars rs (n + 1))).length, ?_, p5, ns', n + 1, rfl, ?_, upd_same, ?_, srt', rfl⟩
        · show (rem rs (fars rs n ++ long (fN (outs rs ++ fars rs n)) rs)).length < _
          omega
        · exact ((s46.trans s7).trans (same_new hp4)).trans (same_new hp5)
        · refine pm'.trans ((pm.append_right _).trans ?_)
          show (zs (outs rs ++ fars rs n) ++ zs (long (fN (outs rs ++ fars rs n)) rs)).Perm (zs (outs rs ++ (fars rs n ++ long (fN (outs rs ++ fars rs n)) rs)))
          unfold zs
          rw [← List.map_append, List.append_assoc]
end

/-! ### expressions that make words of their own -/
/-- a word as it is told: of tuples -/
def WordR (H : Hp) (v : V) : WordM → Prop
  | .num k => v = .int k
  | .sum n l => SumT H v n l
theorem wordR_s {H H' : Hp} (e : TupS H H') {v : V} {w : WordM} (h : WordR H v w) : WordR H' v w := by
  cases w with
  | num k => exact h
  | sum n l => exact sumT_s e h
theorem wordR_dp {K : PySem.W.Frag} {H : Hp} {v : V} {w : WordM} (h : WordR H v w) : Dp K H v (rawD w) := by
  cases w with
  | num k =>
    obtain rfl : v = .int k := h
    exact .int k
  | sum n l => exact sumT_dp h
theorem wordsR_dp {K : PySem.W.Frag} {H : Hp} : ∀ {xs : List V} {ws : List WordM}, PySem.W.EachIs (WordR H) xs ws → DpAll K H xs (ws.map rawD)
  | _, _, .nil => .nil
  | _, _, .cons h t => .cons (wordR_dp h) (wordsR_dp t)
def MkI (te : TE) (σ : L2.St) (n : Int) : Prop := ∀ (H : Hp) (Q : VK), Q (.int n) H → te σ H Q
def MkP (te : TE) (σ : L2.St) (q : List Key × Int) : Prop := ∀ (H : Hp) (Q : VK), (∀ H' v, Same H H' → PartT H' v q → Q v H') → te σ H Q
def MkW (te : TE) (σ : L2.St) (w : WordM) : Prop := ∀ (H : Hp) (Q : VK), (∀ H' v, Same H H' → WordR H' v w → Q v H') → te σ H Q
def MkWs (ta : TA) (σ : L2.St) (ws : List WordM) : Prop := ∀ (H : Hp) (Q : List V → Hp → Prop), (∀ H' vs, Same H H' → PySem.W.EachIs (WordR H') vs ws → Q vs H') → ta σ H Q
abbrev tU (k z : Str) : TE := tTup (tCons (tC (.str k)) (tCons (tC (.str z)) tNil))
abbrev tP (k z : Str) (m : TE) : TE := tTup (tCons (tU k z) (tCons m tNil))
abbrev tS0 (n : TE) : TE := tTup (tCons n (tCons (tTup tNil) tNil))
abbrev tS1 (n a : TE) : TE := tTup (tCons n (tCons (tTup (tCons a tNil)) tNil))
abbrev tS2 (n a b : TE) : TE := tTup (tCons n (tCons (tTup (tCons a (tCons b tNil))) tNil))
abbrev tN (n : Int) : TE := tUn (rU fun i => .int (-i)) (tC (.int n))
section
variable {σ : L2.St}
theorem mk_int {n : Int} : MkI (tC (.int n)) σ n := fun H Q q => q
theorem mk_neg {n : Int} : MkI (tN n) σ (-n) := fun H Q q => ⟨n, rfl, q⟩
theorem mk_var {i : Nat} {k : Int} (h : σ[i]? = some (some (.int k))) : MkI (tVar i) σ k := fun H Q q => ⟨_, h, q⟩
theorem mk_mul {n k : Int} {i : Nat} (h : σ[i]? = some (some (.int k))) (b : -(2 ^ 64) < n ∧ n < 2 ^ 64) : MkI (tOp (rI CMul fun i j => .int (i * j)) (tC (.int n)) (tVar i)) σ (n * k) := fun H Q q => ⟨_, h, n, k, rfl, rfl, .inl b, q⟩
theorem mk_p {k z : Str} {m : TE} {i : Int} (h : MkI m σ i) : MkP (tP k z m) σ ([.inr k, .inr z], i) := fun H Q q => ⟨(by show 2 ≤ sizeLine; decide), fun p1 h1 => h _ _ ⟨(by show 2 ≤ sizeLine; decide), fun p2 h2 => q _ _ ((same_new h1).trans (same_new h2)) ⟨p2, p1, rfl, upd_same, same_new h2 _ _ upd_same⟩⟩⟩
theorem mk_s0 {n : TE} {i : Int} (h : MkI n σ i) : MkW (tS0 n) σ (.sum i []) := fun H Q q => h H _ ⟨Nat.zero_le _, fun p1 h1 => ⟨(by show 2 ≤ sizeLine; decide), fun p2 h2 => q _ _ ((same_new h1).trans (same_new h2)) ⟨p2, p1, [], rfl, upd_same, same_new h2 _ _ upd_same, .nil⟩⟩⟩
theorem mk_s1 {n a : TE} {i : Int} {p : List Key × Int} (h : MkI n σ i) (ha : MkP a σ p) : MkW (tS1 n a) σ (.sum i [p]) := fun H Q q => h H _ (ha H _ fun H1 v s1 hv => ⟨(by show 1 ≤ sizeLine; decide), fun p1 h1 => ⟨(by show 2 ≤ sizeLine; decide), fun p2 h2 => q _ _ (s1.trans ((same_new h1).trans (same_new h2))) ⟨p2, p1, [v], rfl, upd_same, same_new h2 _ _ upd_same, .cons (partT_s (TupS.of ((same_new h1).trans (same_new h2))) hv) .nil⟩⟩⟩)
theorem mk_s2 {n a b : TE} {i : Int} {p p' : List Key × Int} (h : MkI n σ i) (ha : MkP a σ p) (hb : MkP b σ p') : MkW (tS2 n a b) σ (.sum i [p, p']) := fun H Q q => h H _ (ha H _ fun H1 v s1 hv => hb H1 _ fun H2 u s2 hu => ⟨(by show 2 ≤ sizeLine; decide), fun p1 h1 => ⟨(by show 2 ≤ sizeLine; decide), fun p2 h2 => q _ _ ((s1.trans s2).trans ((same_new h1).trans (same_new h2))) ⟨p2, p1, [v, u], rfl, upd_same, same_new h2 _ _ upd_same, .cons (partT_s (TupS.of (s2.trans ((same_new h1).trans (same_new h2)))) hv) (.cons (partT_s (TupS.of ((same_new h1).trans (same_new h2))) hu) .nil)⟩⟩⟩)
theorem mk_num {te : TE} {k : Int} (h : MkI te σ k) : MkW te σ (.num k) := fun H Q q => h H _ (q H _ (Same.refl H) rfl)
theorem mk_nil : MkWs tNil σ [] := fun H Q q => q H _ (Same.refl H) .nil
theorem mk_cons {te : TE} {ta : TA} {w : WordM} {ws : List WordM} (h : MkW te σ w) (t : MkWs ta σ ws) : MkWs (tCons te ta) σ (w :: ws) := fun H Q q => h H _ fun H1 v s1 h1 => t H1 _ fun H2 vs s2 h2 => q H2 (v :: vs) (s1.trans s2) (.cons (wordR_s (TupS.of s2) h1) h2)
end
/-! ### the law's sums -/
def someW (k : Int) : List WordM := [.sum k [], .sum 5 [(nameU "la", 1)], .sum 0 [(nameU "lb", 2), (nameU "lc", -1)], .sum (-3) [(nameU "away", 1), (nameU "la", -1)], .sum (2048 * k) [(pieceU "m", -1), (nameU "ld", 1)], .sum 7 [(nameU "la", 1), (nameU "la", -1)], .sum 1 [(pieceU "other", 3), (nameU "lb", 1)], .num k]
theorem okU_p {z : Str} (h : z ∈ nmS) : OkU (pieceU z) := ⟨_, _, rfl, .inl rfl, h⟩
theorem okU_n {z : Str} (h : z ∈ nmS) : OkU (nameU z) := ⟨_, _, rfl, .inr rfl, h⟩
theorem nmS_in : ("la" : Str) ∈ nmS ∧ ("lb" : Str) ∈ nmS ∧ ("lc" : Str) ∈ nmS ∧ ("ld" : Str) ∈ nmS ∧ ("away" : Str) ∈ nmS ∧ ("m" : Str) ∈ nmS ∧ ("other" : Str) ∈ nmS ∧ ("code" : Str) ∈ nmS := by decide +kernel
theorem okM_two {n a b : Int} {u v : List Key} (hu : OkU u) (hv : OkU v) (ha : -4 ≤ a ∧ a ≤ 4) (hb : -4 ≤ b ∧ b ≤ 4) : OkM (.sum n [(u, a), (v, b)]) := ⟨by simp, fun q hq => by
  rcases List.mem_cons.mp hq with e | hq
  · rw [e]
    exact ⟨hu, ha⟩
  · rw [List.mem_singleton.mp hq]
    exact ⟨hv, hb⟩⟩
theorem someW_ok (k : Int) : ∀ w ∈ someW k, OkM w := by
  obtain ⟨ha, hb, hc, hd, hw, hm, ho, _⟩ := nmS_in
  intro w hw'
  simp only [someW, List.mem_cons, List.not_mem_nil, or_false] at hw'
  rcases hw' with rfl | rfl | rfl | rfl | rfl | rfl | rfl | rfl
  · exact ⟨Nat.zero_le _, fun q hq => by cases hq⟩
  · exact ⟨by simp, fun q hq => by
      rw [List.mem_singleton.mp hq]
      exact ⟨okU_n ha, (by show (-4 : Int) ≤ 1; decide), (by show (1 : Int) ≤ 4; decide)⟩⟩
  · exact okM_two (okU_n hb) (okU_n hc) (by decide) (by decide)
  · exact okM_two (okU_n hw) (okU_n ha) (by decide) (by decide)
  · exact okM_two (okU_p hm) (okU_n hd) (by decide) (by decide)
  · exact okM_two (okU_n ha) (okU_n ha) (by decide) (by decide)
  · exact okM_two (okU_p ho) (okU_n hb) (by decide) (by decide)
  · trivial
def spSome (K : PySem.W.Frag) : Sp := fun vs H Q _ => ∃ (dr k : Int), vs = [.int dr, .int k] ∧ 0 ≤ dr ∧ dr < 8 ∧ ∀ H' v w, Same H H' → WordR H' v w → OkM w → Q v H'
abbrev sSome : Stmt := topS 65
theorem scSome : FnScope ["draw", "k", "some"] ["draw", "k"] (defScope sSome) := ⟨rfl, rfl, rfl, by decide +kernel, rfl, by decide +kernel, by decide +kernel⟩
theorem someW_at {k dr : Int} (h0 : 0 ≤ dr) (h1 : dr < 8) {H : Hp} {xs : List V} (h : PySem.W.EachIs (WordR H) xs (someW k)) : ∃ v w, atI xs dr = some v ∧ WordR H v w ∧ OkM w := by
  obtain ⟨n, rfl⟩ := Int.eq_ofNat_of_zero_le h0
  have l : xs.length = 8 := by rw [h.length]; rfl
  have hn : n < xs.length := by omega
  have e : xs[n]? = some xs[n] := List.getElem?_eq_getElem hn
  obtain ⟨w, hw, hv⟩ := eachs_get h e
  exact ⟨_, w, at_of e, hv, someW_ok k w (List.mem_of_getElem? hw)⟩
/-- the eight words, in their order -/
theorem mk_1 {σ : L2.St} {k : Int} (h : σ[1]? = some (some (.int k))) : MkWs (tCons (tS0 (tVar 1)) (tCons (tS1 (tC (.int 5)) (tP "name" "la" (tC (.int 1)))) (tCons (tS2 (tC (.int 0)) (tP "name" "lb" (tC (.int 2))) (tP "name" "lc" (tN 1))) tNil))) σ ((someW k).take 3) :=
  mk_cons (mk_s0 (mk_var h)) (mk_cons (mk_s1 mk_int (mk_p mk_int)) (mk_cons (mk_s2 mk_int (mk_p mk_int) (mk_p mk_neg)) mk_nil))
theorem mk_2 {σ : L2.St} : MkW (tS2 (tN 3) (tP "name" "away" (tC (.int 1))) (tP "name" "la" (tN 1))) σ (.sum (-3) [(nameU "away", 1), (nameU "la", -1)]) := mk_s2 mk_neg (mk_p mk_int) (mk_p mk_neg)
theorem mk_3 {σ : L2.St} {k : Int} (h : σ[1]? = some (some (.int k))) : MkW (tS2 (tOp (rI CMul fun i j => .int (i * j)) (tC (.int 2048)) (tVar 1)) (tP "piece" "m" (tN 1)) (tP "name" "ld" (tC (.int 1)))) σ (.sum (2048 * k) [(pieceU "m", -1), (nameU "ld", 1)]) := mk_s2 (mk_mul h (by decide)) (mk_p mk_neg) (mk_p mk_int)
theorem mk_4 {σ : L2.St} : MkW (tS2 (tC (.int 7)) (tP "name" "la" (tC (.int 1))) (tP "name" "la" (tN 1))) σ (.sum 7 [(nameU "la", 1), (nameU "la", -1)]) := mk_s2 mk_int (mk_p mk_int) (mk_p mk_neg)
theorem mk_5 {σ : L2.St} {k : Int} (h : σ[1]? = some (some (.int k))) : MkWs (tCons (tS2 (tC (.int 1)) (tP "piece" "other" (tC (.int 3))) (tP "name" "lb" (tC (.int 1)))) (tCons (tVar 1) tNil)) σ [.sum 1 [(pieceU "other", 3), (nameU "lb", 1)], .num k] := mk_cons (mk_s2 mk_int (mk_p mk_int) (mk_p mk_int)) (mk_cons (mk_num (mk_var h)) mk_nil)

section
variable {K : PySem.W.Frag} {dr k : Int} {H : Hp} {u : TS} {D : Ends} {L : Addr}
abbrev σS (dr k : Int) (L : Option V) : L2.St := [some (.int dr), some (.int k), L]
theorem ss_set {ta : TA} {ws : List WordM} (mk : MkWs ta (σS dr k none) ws) (few : ws.length ≤ 900) (go : ∀ H2 L xs, Same H H2 → H L = none → H2 L = some (.lst xs) → PySem.W.EachIs (WordR H2) xs ws → u D (σS dr k (some (.ref L))) H2) : tSeq (tAsg (tLst ta) (gName 2)) u D (σS dr k none) H :=
  mk H _ fun H1 xs s1 hx => ⟨by rw [hx.length]; exact sz1000 (by omega), fun L hL => go _ L xs (s1.trans (same_new hL)) (none_of_f s1 hL) upd_same (eachs_imp (fun _ _ => wordR_s (TupS.of (same_new hL))) hx)⟩
theorem ss_app {te : TE} {ws : List WordM} {wd : WordM} {xs : List V} {H0 : Hp} (mk : MkW te (σS dr k (some (.ref L))) wd) (kp : ∀ b o, b ≠ L → H0 b = some o → H b = some o) (hL : H L = some (.lst xs)) (hx : PySem.W.EachIs (WordR H) xs ws) (few : ws.length ≤ 900)
    (go : ∀ H2 zs, (∀ b o, b ≠ L → H0 b = some o → H2 b = some o) → H2 L = some (.lst zs) → PySem.W.EachIs (WordR H2) zs (ws ++ [wd]) → u D (σS dr k (some (.ref L))) H2) : tSeq (tDrop (tBM K "list" rAppend (tVar 2) (tCons te tNil))) u D (σS dr k (some (.ref L))) H := by
  refine ⟨_, rfl, .inl ⟨rfl, _, SqL.of hL⟩, mk H _ fun H1 v s1 hv => ⟨L, xs, v, rfl, rfl, s1 _ _ hL, ?_, ?_⟩⟩
  · rw [hx.length]
    exact small1000 (by omega)
  · have kt : TupS H1 (upd H1 L (.lst (xs ++ [v]))) := TupS.put (s1 _ _ hL) (by intro xs z; cases z)
    exact go _ (xs ++ [v]) (fun b o hb e => by rw [upd_ne hb]; exact s1 _ _ (kp b o hb e)) upd_same (eachs_snoc (wordR_s kt hv) (eachs_imp (fun _ _ => wordR_s ((TupS.of s1).trans kt)) hx))
theorem ss_end {ta : TA} {ws vs : List WordM} {xs : List V} {H0 : Hp} (mk : MkWs ta (σS dr k (some (.ref L))) vs) (hL : H L = some (.lst xs)) (hx : PySem.W.EachIs (WordR H) xs ws) (few : ws.length ≤ 400) (few2 : vs.length ≤ 400) (s0 : ∀ b o, b ≠ L → H0 b = some o → H b = some o) (hn : H0 L = none)
    (go : ∀ H2 ys, Same H0 H2 → PySem.W.EachIs (WordR H2) ys (ws ++ vs) → ∃ v, atI ys dr = some v ∧ D.rt v H2) : tRet (tOp (rIxL K) (tOp rCat (tVar 2) (tLst ta)) (tVar 0)) D (σS dr k (some (.ref L))) H := by
  refine ⟨_, rfl, mk H _ fun H1 ys s1 hy => ⟨by rw [hy.length]; exact sz1000 (by omega), fun p hp => ?_⟩⟩
  have sp := same_new (o := .lst ys) hp
  have lx : xs.length = ws.length := hx.length
  have ly : ys.length = vs.length := hy.length
  refine ⟨L, p, xs, ys, rfl, rfl, sp _ _ (s1 _ _ hL), upd_same, sz1000 (by omega), fun q hq => ?_⟩
  have sq := same_new (o := .lst (xs ++ ys)) hq
  have s3 := (s1.trans sp).trans sq
  obtain ⟨v, e, g⟩ := go (upd (upd H1 p (.lst ys)) q (.lst (xs ++ ys))) (xs ++ ys) (fun b o eb => s3 _ _ (s0 b o (ne_of_none eb hn) eb)) (eachs_app (eachs_imp (fun _ _ => wordR_s (TupS.of s3)) hx) (eachs_imp (fun _ _ => wordR_s (TupS.of (sp.trans sq))) hy))
  exact ⟨_, rfl, q, _, _, v, rfl, rfl, SqL.of upd_same, e, g⟩
end
section
variable {P : Program} {w : World} {K : PySem.W.Frag} {mg : Str → Option Value} {base : Heap}
theorem ok_some {f : Addr} {fd : FuncData} (F : Fun K "_law_some_sum" "_law_some_sum" sSome f fd) : FnOk P w K mg base CX0 1 f fd ["draw", "k"] (spSome K) := by
  refine F.ok scSome (fun vs H Q E h => ?_) (fun cdv A outer s H vs Q E hr h => ?_)
  · obtain ⟨dr, k, rfl, _⟩ := h
    rfl
  · obtain ⟨dr, k, rfl, h0, h1, q⟩ := h
    refine ⟨_, (pss_cons (ps_set (i := 2) scSome.nd rfl (.inl rfl) (pe_lst (pa_cons (pe_tup (pa_cons (pv 1) (pa_cons (pe_tup pa_nil) pa_nil))) (pa_cons (pe_tup (pa_cons pe_int (pa_cons (pe_tup (pa_cons (pe_tup (pa_cons (pe_tup (pa_cons pe_str (pa_cons pe_str pa_nil))) (pa_cons pe_int pa_nil))) pa_nil)) pa_nil))) (pa_cons (pe_tup (pa_cons pe_int (pa_cons (pe_tup (pa_cons (pe_tup (pa_cons (pe_tup (pa_cons pe_str (pa_cons pe_str pa_nil))) (pa_cons pe_int pa_nil))) (pa_cons (pe_tup (pa_cons (pe_tup (pa_cons pe_str (pa_cons pe_str pa_nil))) (pa_cons (pe_un un_neg pe_int) pa_nil))) pa_nil))) pa_nil))) pa_nil)))))
      (pss_cons (ps_expr (pe_bm PySem.F.plainAttrs_list PySem.F.slot_list_append PySem.F.type_list_append mt_append (pv 2) (pa_cons (pe_tup (pa_cons (pe_un un_neg pe_int) (pa_cons (pe_tup (pa_cons (pe_tup (pa_cons (pe_tup (pa_cons pe_str (pa_cons pe_str pa_nil))) (pa_cons pe_int pa_nil))) (pa_cons (pe_tup (pa_cons (pe_tup (pa_cons pe_str (pa_cons pe_str pa_nil))) (pa_cons (pe_un un_neg pe_int) pa_nil))) pa_nil))) pa_nil))) pa_nil)))
      (pss_cons (ps_expr (pe_bm PySem.F.plainAttrs_list PySem.F.slot_list_append PySem.F.type_list_append mt_append (pv 2) (pa_cons (pe_tup (pa_cons (pe_op op_mul pe_int (pv 1)) (pa_cons (pe_tup (pa_cons (pe_tup (pa_cons (pe_tup (pa_cons pe_str (pa_cons pe_str pa_nil))) (pa_cons (pe_un un_neg pe_int) pa_nil))) (pa_cons (pe_tup (pa_cons (pe_tup (pa_cons pe_str (pa_cons pe_str pa_nil))) (pa_cons pe_int pa_nil))) pa_nil))) pa_nil))) pa_nil)))
      (pss_cons (ps_expr (pe_bm PySem.F.plainAttrs_list PySem.F.slot_list_append PySem.F.type_list_append mt_append (pv 2) (pa_cons (pe_tup (pa_cons pe_int (pa_cons (pe_tup (pa_cons (pe_tup (pa_cons (pe_tup (pa_cons pe_str (pa_cons pe_str pa_nil))) (pa_cons pe_int pa_nil))) (pa_cons (pe_tup (pa_cons (pe_tup (pa_cons pe_str (pa_cons pe_str pa_nil))) (pa_cons (pe_un un_neg pe_int) pa_nil))) pa_nil))) pa_nil))) pa_nil)))
      (pss_one (ps_ret (pe_ix ix_list (pe_op op_cat (pv 2) (pe_lst (pa_cons (pe_tup (pa_cons pe_int (pa_cons (pe_tup (pa_cons (pe_tup (pa_cons (pe_tup (pa_cons pe_str (pa_cons pe_str pa_nil))) (pa_cons pe_int pa_nil))) (pa_cons (pe_tup (pa_cons (pe_tup (pa_cons pe_str (pa_cons pe_str pa_nil))) (pa_cons pe_int pa_nil))) pa_nil))) pa_nil))) (pa_cons (pv 1) pa_nil)))) (pv 0) (fun _ _ => rfl)))))))), ?_⟩
    refine ss_set (ws := (someW k).take 3) (mk_1 rfl) (by show 3 ≤ 900; decide) fun H2 L xs s2 hn hL hx => ?_
    refine ss_app (ws := (someW k).take 3) (H0 := H) mk_2 (fun b o _ e => s2 _ _ e) hL hx (by show 3 ≤ 900; decide) (fun H3 x3 k3 hL3 hx3 => ?_)
    refine ss_app (ws := (someW k).take 4) (H0 := H) (mk_3 rfl) k3 hL3 hx3 (by show 4 ≤ 900; decide) (fun H4 x4 k4 hL4 hx4 => ?_)
    refine ss_app (ws := (someW k).take 5) (H0 := H) mk_4 k4 hL4 hx4 (by show 5 ≤ 900; decide) (fun H5 x5 k5 hL5 hx5 => ?_)
    refine ss_end (ws := (someW k).take 6) (vs := (someW k).drop 6) (H0 := H) (mk_5 rfl) hL5 hx5 (by show 6 ≤ 400; decide) (by show 2 ≤ 400; decide) k5 hn fun H6 ys s6 hy => ?_
    obtain ⟨v, w', e, hv, okw⟩ := someW_at h0 h1 (xs := ys) hy
    exact ⟨v, e, q H6 v w' s6 hv okw⟩
end

/-! ### rows whose first words are sums -/
theorem KpT.del {K : PySem.W.Frag} {H : Hp} {S : Addr} {o : HO} (hS : H S = some o) (ho : notTup o) : KpT K H (del H S) := by
  refine ⟨fun a xs h => ?_, fun a xs h => ?_⟩
  · rcases h with (h | ⟨u, h⟩) | h
    · have aS : a ≠ S := fun z => by
        rw [z, hS] at h
        cases h
        exact ho
      exact .inl (.inl (by rw [del_ne aS]; exact h))
    · have aS : a ≠ S := fun z => by
        rw [z, hS] at h
        cases h
        exact ho
      exact .inl (.inr ⟨u, by rw [del_ne aS]; exact h⟩)
    · exact .inr h
  · have aS : a ≠ S := fun z => by
      rw [z, hS] at h
      cases h
      exact ho
    rw [del_ne aS]
    exact h
/-- a row whose words are told by tuples -/
def RowQ (K : PySem.W.Frag) (H : Hp) (v : V) : Row → Prop
  | .words ws => ∃ (a b : Addr) (xs : List V), v = .ref a ∧ SqT K H a [.str "words", .ref b] ∧ SqL K H b xs ∧ PySem.W.EachIs (WordR H) xs ws
  | .label s => ∃ a, v = .ref a ∧ SqT K H a [.str "label", .str s]
  | .even n => ∃ a, v = .ref a ∧ SqT K H a [.str "even", .int n]
  | .branch c n m => ∃ a, v = .ref a ∧ SqT K H a [.str "branch", .str c, .str n, .int m]
theorem rowQ_L {K : PySem.W.Frag} {H : Hp} {v : V} {r : Row} (h : RowQ K H v r) : RowL K H v r := by
  cases r with
  | words ws =>
    obtain ⟨a, b, xs, h1, h2, h3, h4⟩ := h
    exact ⟨a, b, xs, h1, h2, h3, wordsR_dp h4⟩
  | label s => exact h
  | even n => exact h
  | branch c n m => exact h
theorem rowQ_same {K : PySem.W.Frag} {H H' : Hp} {v : V} {r : Row} (e : Same H H') (h : RowQ K H v r) : RowQ K H' v r := by
  cases r with
  | words ws =>
    obtain ⟨a, b, xs, h1, h2, h3, h4⟩ := h
    exact ⟨a, b, xs, h1, sqT_same e h2, sqL_same e h3, eachs_imp (fun _ _ => wordR_s (TupS.of e)) h4⟩
  | label s => exact rowL_same (r := .label s) e h
  | even n => exact rowL_same (r := .even n) e h
  | branch c n m => exact rowL_same (r := .branch c n m) e h
theorem rowsQ_L {K : PySem.W.Frag} {H : Hp} : ∀ {xs : List V} {rs : List Row}, PySem.W.EachIs (RowQ K H) xs rs → RowsL K H xs rs
  | _, _, .nil => .nil
  | _, _, .cons h t => .cons (rowQ_L h) (rowsQ_L t)
theorem nums_R {K : PySem.W.Frag} {H : Hp} : ∀ {xs : List V} {ws : List WordM}, DpAll K H xs (ws.map rawD) → (∀ w ∈ ws, ∃ k, w = .num k) → PySem.W.EachIs (WordR H) xs ws
  | _, [], h, _ => by cases h; exact .nil
  | _, w :: ws, h, n => by
    cases h with
    | cons h1 h2 =>
      obtain ⟨k, rfl⟩ := n w (List.mem_cons_self ..)
      exact .cons (dp_int h1) (nums_R h2 fun w' hw => n w' (List.mem_cons_of_mem _ hw))
theorem row_Q {K : PySem.W.Frag} {H : Hp} {v : V} {r : Row} (h : RowL K H v r) (g : RowG r) : RowQ K H v r := by
  cases r with
  | words ws =>
    obtain ⟨a, b, xs, h1, h2, h3, h4⟩ := h
    have g1 : ws.length ≤ 255 ∧ ∀ w ∈ ws, ∃ k, w = .num k := g
    exact ⟨a, b, xs, h1, h2, h3, nums_R h4 g1.2⟩
  | label s => exact h
  | even n => exact h
  | branch c n m => exact h
/-- what rows with sums are -/
def RowS : Row → Prop
  | .words ws => ws.length ≤ 255 ∧ ∀ w ∈ ws, OkM w
  | r => RowG r
structure DraftS (rs : List Row) : Prop where
  rows : ∀ r ∈ rs, RowS r
  nod : (rs.filterMap labR).Nodup
  len : rs.length ≤ 20
theorem S_ok {rs : List Row} (h : DraftS rs) : DrOk rs := by
  refine ⟨fun r hr => ?_, by have := h.len; omega, fun i s hi j hj hjs => ?_, fun k c n m hk hm j hj => ?_⟩
  · have g := h.rows r hr
    cases r with
    | words ws => exact (by
        have g' : ws.length ≤ 255 ∧ ∀ w ∈ ws, OkM w := g
        exact ⟨by omega, g'.2⟩)
    | label s =>
      obtain ⟨a, b, _⟩ := labs4_nm s g
      exact ⟨a, b⟩
    | even n => exact g
    | branch c n m =>
      have g' : c ∈ nearL ∧ n ∈ nmL ∧ (m ≠ 0 → n = "away") := g
      obtain ⟨a, b⟩ := nmL_nm n g'.2.1
      exact ⟨g'.1, a, b⟩
  · have h1 := labOf_some hi
    have h2 := labOf_some hjs
    have l1 : i < rs.length := (List.getElem?_eq_some_iff.mp h1).1
    have pw := List.pairwise_filterMap.mp h.nod
    have := List.pairwise_iff_getElem.mp pw j i (by omega) l1 hj
    have e1 : rs[i] = .label s := Option.some.inj (by rw [← List.getElem?_eq_getElem l1]; exact h1)
    have e2 : rs[j] = .label s := Option.some.inj (by rw [← List.getElem?_eq_getElem (by omega)]; exact h2)
    rw [e1, e2] at this
    exact this s rfl s rfl rfl
  · have g : c ∈ nearL ∧ n ∈ nmL ∧ (m ≠ 0 → n = "away") := h.rows _ (List.mem_of_getElem? hk)
    have e : n = "away" := g.2.2 hm
    have g2 : n ∈ labs4 := h.rows _ (List.mem_of_getElem? (labOf_some hj))
    exact (labs4_nm n g2).2.2 e
theorem S_br {rs : List Row} (h : DraftS rs) : BrN rs := fun k c n m hk => by
  have g : c ∈ nearL ∧ n ∈ nmL ∧ (m ≠ 0 → n = "away") := h.rows _ (List.mem_of_getElem? hk)
  have sub : ∀ z ∈ nmL, z ∈ nmS := by decide +kernel
  exact sub n g.2.1
/-- a row, perhaps with other words -/
def Rel1 (r r' : Row) : Prop := (r' = r ∧ RowS r) ∨ ∃ ws ws', r = .words ws ∧ r' = .words ws' ∧ ws'.length = ws.length ∧ ws.length ≤ 255 ∧ ∀ w ∈ ws', OkM w
theorem rel_lab {r r' : Row} (h : Rel1 r r') : labR r' = labR r := by
  rcases h with ⟨rfl, _⟩ | ⟨ws, ws', rfl, rfl, _⟩
  · rfl
  · rfl
theorem rel_S {r r' : Row} (h : Rel1 r r') : RowS r' := by
  rcases h with ⟨rfl, g⟩ | ⟨ws, ws', rfl, rfl, e, l, ok⟩
  · exact g
  · exact ⟨by omega, ok⟩
theorem G_S {r : Row} (g : RowG r) : RowS r := by
  cases r with
  | words ws => exact (by
      have g1 : ws.length ≤ 255 ∧ ∀ w ∈ ws, ∃ k, w = .num k := g
      exact ⟨g1.1, fun w hw => by
        obtain ⟨k, rfl⟩ := g1.2 w hw
        trivial⟩)
  | label s => exact g
  | even n => exact g
  | branch c n m => exact g
theorem rels_lab : ∀ {rs rs' : List Row}, PySem.W.EachIs Rel1 rs rs' → rs'.filterMap labR = rs.filterMap labR
  | _, _, .nil => rfl
  | _, _, .cons h t => by
    rw [List.filterMap_cons, List.filterMap_cons, rel_lab h, rels_lab t]
theorem rels_S {rs rs' : List Row} (h : PySem.W.EachIs Rel1 rs rs') (g : DraftG rs) : DraftS rs' := by
  refine ⟨?_, by rw [rels_lab h]; exact g.nod, by rw [← h.length]; exact g.len⟩
  clear g
  induction h with
  | nil => exact fun r hr => by cases hr
  | cons h t ih =>
    intro r hr
    rcases List.mem_cons.mp hr with e | hr
    · rw [e]
      exact rel_S h
    · exact ih r hr
def spWS (K : PySem.W.Frag) : Sp := fun vs H Q _ => ∃ (L d : Addr) (xs : List V) (rs : List Row) (out : List Int), vs = [.ref L, .ref d] ∧ SqL K H L xs ∧ DpAll K H xs (rs.map rowR) ∧ DraftG rs ∧ SqL K H d (out.map V.int) ∧ (∀ i, i < rs.length → ∃ v, out[i]? = some v ∧ 0 ≤ v ∧ v < 8) ∧
  ∀ H' p ys rs', Same H H' → H p = none → H' p = some (.lst ys) → PySem.W.EachIs (RowQ K H') ys rs' → DraftS rs' → rs'.length = rs.length → rs'.filterMap labR = rs.filterMap labR → Q (.ref p) H'
abbrev sWS : Stmt := topS 66
theorem scWS : FnScope ["rows", "draws", "found", "k", "row"] ["rows", "draws"] (defScope sWS) := ⟨rfl, rfl, rfl, by decide +kernel, rfl, by decide +kernel, by decide +kernel⟩
theorem eachs_drop {α β : Type} {R : α → β → Prop} : ∀ {ys : List α} {us : List β} (n : Nat), PySem.W.EachIs R ys us → PySem.W.EachIs R (ys.drop n) (us.drop n)
  | _, _, 0, h => h
  | _, _, _ + 1, .nil => .nil
  | _, _, n + 1, .cons _ t => eachs_drop n t
theorem same_del {H H4 : Hp} {D : Addr} (hD : H D = none) (kp : ∀ b o, b ≠ D → H b = some o → H4 b = some o) : Same H (del H4 D) := fun b o e => by
  have ne := ne_of_none e hD
  rw [del_ne ne]
  exact kp b o ne e
section
variable {P : Program} {w : World} {K : PySem.W.Frag} {mg : Str → Option Value} {base : Heap}
theorem ok_ws {f : Addr} {fd : FuncData} (F : Fun K "_law_with_sums" "_law_with_sums" sWS f fd) (T : Bi mg) (G : Has P w K mg base CX0 1 "_law_some_sum" ["draw", "k"] (spSome K)) : FnOk P w K mg base CX0 2 f fd ["rows", "draws"] (spWS K) := by
  refine F.ok scWS (fun vs H Q E h => ?_) (fun cdv A outer s H vs Q E hr h => ?_)
  · obtain ⟨L, d, xs, rs, out, rfl, _⟩ := h
    rfl
  · obtain ⟨L, d, xs, rs, out, rfl, hL, hxs, hG, hd, hdr, q⟩ := h
    refine ⟨_, (pss_cons (ps_set (i := 2) scWS.nd rfl (.inl rfl) (pe_lst pa_nil))
      (pss_cons (ps_for PassesOwn.never rfl (pi_enum (by rfl) T.enumerate (pa_cons (pv 0) pa_nil)) (pg_tup rfl (pgs_cons (pg_name (i := 3) scWS.nd rfl (.inl rfl)) (pgs_cons (pg_name (i := 4) scWS.nd rfl (.inl rfl)) pgs_nil))) (pss_cons (ps_if (PW.pt (pw_and (pt_cmpR op_eq (pe_ix ix_tup (pv 4) pe_int (fun _ _ => rfl)) pe_str (nomark _)) (pw_and1 (pt_cmpR op_gt (pe_callB call_len_seq (by rfl) T.len (by decide +kernel) (pa_cons (pe_ix ix_tup (pv 4) pe_int (fun _ _ => rfl)) pa_nil)) pe_int (nomark _))))) (pss_one (ps_set (i := 4) scWS.nd rfl (.inl rfl) (pe_tup (pa_cons pe_str (pa_cons (pe_op op_cat (pe_lst (pa_cons (pe_callH G hr (by rfl) pass0 (pa_cons (pe_ix ix_list (pv 1) (pv 3) (fun _ _ => rfl)) (pa_cons (pv 3) pa_nil))) pa_nil)) (pe_callTy call_list_of (by rfl) T.list (by decide +kernel) (pa_cons (pe_slice sl_list (pe_ix ix_tup (pv 4) pe_int (fun _ _ => rfl)) (po_some pe_int) po_none) pa_nil))) pa_nil))))) pss_nil)
        (pss_one (ps_expr (pe_bm PySem.F.plainAttrs_list PySem.F.slot_list_append PySem.F.type_list_append mt_append (pv 2) (pa_cons (pv 4) pa_nil))))))
      (pss_one (ps_ret (pv 2))))), ?_⟩
    have lx : xs.length = rs.length := by rw [dps_len hxs, List.length_map]
    have l20 := hG.len
    refine ⟨Nat.zero_le _, fun D hD => ?_⟩
    have sD := same_new (o := .lst []) hD
    refine ⟨_, rfl, L, xs, rfl, sqL_same sD hL, ?_⟩
    refine for_it walk_enum (fun i σ H4 => ∃ (a b : Option V) (ys : List V) (rs' : List Row), σ = [some (.ref L), some (.ref d), some (.ref D), a, b] ∧ (∀ b o, b ≠ D → H b = some o → H4 b = some o) ∧ H4 D = some (.lst ys) ∧ PySem.W.EachIs (RowQ K (del H4 D)) ys rs' ∧ PySem.W.EachIs Rel1 (rs.take i) rs')
      ⟨none, none, [], [], rfl, fun b o hb e => by rw [upd_ne hb]; exact e, upd_same, .nil, .nil⟩ (fun i σ H4 _ ⟨_, _, _, _, _, kp, _⟩ => sqL_same (fun b o e => kp b o (ne_of_none e hD) e) hL) ?_ ?_
    · rintro i x σ H4 H4' hi ⟨a, b, ys, rs', rfl, kp, hD4, hys, rel⟩ ⟨TT, x', y, rfl, hT, rfl, hx', hy⟩
      cases hx'
      obtain ⟨dy, hdy, hyd⟩ := dps_get hxs hy
      rw [List.getElem?_map] at hdy
      obtain ⟨r, hri, rfl⟩ := Option.map_eq_some_iff.mp hdy
      have hi2 : i < rs.length := (List.getElem?_eq_some_iff.mp hri).1
      have sT := same_new (o := .tup [V.int ((i : Nat) : Int), y]) hT
      have hD5 := sT _ _ hD4
      have kp5 : ∀ b o, b ≠ D → H b = some o → upd H4 TT (.tup [V.int ((i : Nat) : Int), y]) b = some o := fun b o hb e => sT _ _ (kp b o hb e)
      have hT5 : upd H4 TT (.tup [V.int ((i : Nat) : Int), y]) TT = some (.tup [V.int ((i : Nat) : Int), y]) := upd_same
      have hys5 := eachs_imp (fun _ _ => rowQ_same (del_same_of sT (D := D))) hys
      generalize upd H4 TT (.tup [V.int ((i : Nat) : Int), y]) = H5 at sT hD5 kp5 hT5 hys5 ⊢
      have s05 : Same H H5 := fun b o e => kp5 b o (ne_of_none e hD) e
      have hyd5 := dp_same s05 hyd
      have yl : ys.length ≤ 20 := by
        rw [hys.length, ← rel.length, List.length_take]
        omega
      have gr := hG.rows r (List.mem_of_getElem? hri)
      refine ⟨TT, _, rfl, SqT.of hT5, rfl, _, _, rfl, _, _, rfl, rfl, ?_⟩
      have tk : rs.take (i + 1) = rs.take i ++ [r] := by
        rw [List.take_add_one, hri]
        rfl
      -- the row goes in
      have fin : ∀ {H9 : Hp} {v : V} {r' : Row}, Same H5 H9 → RowQ K (del H9 D) v r' → Rel1 r r' → H9 D = some (.lst ys) ∧ ys.length < sizeLine ∧ ∀ (a b : Option V), ∃ (a' b' : Option V) (zs : List V) (rs'' : List Row), ([some (.ref L), some (.ref d), some (.ref D), a, b] : L2.St) = [some (.ref L), some (.ref d), some (.ref D), a', b'] ∧ (∀ b o, b ≠ D → H b = some o → upd H9 D (.lst (ys ++ [v])) b = some o) ∧ upd H9 D (.lst (ys ++ [v])) D = some (.lst zs) ∧ PySem.W.EachIs (RowQ K (del (upd H9 D (.lst (ys ++ [v]))) D)) zs rs'' ∧ PySem.W.EachIs Rel1 (rs.take (i + 1)) rs'' := by
        intro H9 v r' s9 hv re
        refine ⟨s9 _ _ hD5, small1000 (by omega), fun a b => ⟨a, b, ys ++ [v], rs' ++ [r'], rfl, fun b o hb e => by rw [upd_ne hb]; exact s9 _ _ (kp5 b o hb e), upd_same, ?_, ?_⟩⟩
        · rw [del_upd]
          exact eachs_snoc hv (eachs_imp (fun _ _ => rowQ_same (del_same_of s9)) hys5)
        · rw [tk]
          exact eachs_snoc re rel
      have stay : RowQ K (del H5 D) y r := rowQ_same (same_del hD kp5) (row_Q (dpR_rowL hyd) gr)
      have rs1 := G_S gr
      have ap : ∀ {H9 : Hp} {v : V} {r' : Row} {a : Option V}, Same H5 H9 → RowQ K (del H9 D) v r' → Rel1 r r' → tDrop (tBM K "list" rAppend (tVar 2) (tCons (tVar 4) tNil)) { nx := fun σ H4 => ∃ (a b : Option V) (ys : List V) (rs' : List Row), σ = [some (.ref L), some (.ref d), some (.ref D), a, b] ∧ (∀ b o, b ≠ D → H b = some o → H4 b = some o) ∧ H4 D = some (.lst ys) ∧ PySem.W.EachIs (RowQ K (del H4 D)) ys rs' ∧ PySem.W.EachIs Rel1 (rs.take (i + 1)) rs', rt := Q } [some (.ref L), some (.ref d), some (.ref D), a, some v] H9 := by
        intro H9 v r' a s9 hv re
        obtain ⟨f1, f2, f3⟩ := fin s9 hv re
        exact ⟨_, rfl, .inl ⟨rfl, _, SqL.of f1⟩, _, rfl, D, ys, v, rfl, rfl, f1, f2, f3 _ _⟩
      have rl := row_Q (dpR_rowL hyd5) gr
      cases r with
      | words ws =>
        obtain ⟨a', b', zs, rfl, h2, h3, h4⟩ := rl
        have g1 : ws.length ≤ 255 ∧ ∀ w ∈ ws, OkM w := rs1
        have lz : zs.length = ws.length := h4.length
        refine ⟨_, rfl, a', _, _, _, rfl, rfl, h2, at_of (i := 0) rfl, rfl, _, rfl, kEq (by decide +kernel) ?_⟩
        refine ⟨_, rfl, a', _, _, _, rfl, rfl, h2, at_of (i := 1) rfl, b', zs, rfl, .inl h3, _, _, rfl, rfl, _, rfl, ?_⟩
        cases c : decide ((0 : Int) < ((zs.length : Nat) : Int)) with
        | false => exact iteF (ap (Same.refl H5) stay (.inl ⟨rfl, rs1⟩))
        | true =>
          have pos : 0 < zs.length := by
            have := of_decide_eq_true c
            omega
          obtain ⟨dv, od, d0, d1⟩ := hdr i hi2
          have atd : atI (out.map V.int) ((i : Nat) : Int) = some (.int dv) := at_of (by rw [List.getElem?_map, od]; rfl)
          refine iteT ⟨_, rfl, _, rfl, d, _, _, _, rfl, rfl, sqL_same s05 hd, atd, _, rfl, dv, ((i : Nat) : Int), rfl, d0, d1, fun H6 v w6 s6 hv okw => ⟨(by show 1 ≤ sizeLine; decide), fun p1 h1 => ?_⟩⟩
          have t1 := same_new (o := .lst [v]) h1
          refine ⟨_, rfl, a', _, _, _, rfl, rfl, sqT_same (s6.trans t1) h2, at_of (i := 1) rfl, 1, rfl, b', zs, rfl, sqL_same (s6.trans t1) h3, fun p2 hp2 => ?_⟩
          rw [cut_1]
          have t2 := same_new (o := .lst (zs.drop 1)) hp2
          refine ⟨p2, zs.drop 1, rfl, .inl (SqL.of upd_same), fun l hl => ?_⟩
          have t3 := same_new (o := .lst (zs.drop 1)) hl
          refine ⟨p1, l, [v], zs.drop 1, rfl, rfl, t3 _ _ (t2 _ _ upd_same), upd_same, ?_, fun qq hqq => ⟨(by show 2 ≤ sizeLine; decide), fun t ht => ?_⟩⟩
          · rw [List.length_drop]
            exact sz1000 (by show 1 + _ ≤ 1000; omega)
          have t4 := same_new (o := .lst ([v] ++ zs.drop 1)) hqq
          have t5 := same_new (o := .tup [V.str "words", V.ref qq]) ht
          have s64 := (t1.trans t2).trans t3
          have s69 := (s64.trans t4).trans t5
          have hD6 := s6 _ _ hD5
          have nq : qq ≠ D := fun z => by rw [z, s64 _ _ hD6] at hqq; cases hqq
          have nt : t ≠ D := fun z => by rw [z, (s64.trans t4) _ _ hD6] at ht; cases ht
          have hq9 : upd (upd (upd (upd (upd H6 p1 (.lst [v])) p2 (.lst (zs.drop 1))) l (.lst (zs.drop 1))) qq (.lst ([v] ++ zs.drop 1))) t (.tup [V.str "words", V.ref qq]) qq = some (.lst ([v] ++ zs.drop 1)) := t5 _ _ upd_same
          have ht9 : upd (upd (upd (upd (upd H6 p1 (.lst [v])) p2 (.lst (zs.drop 1))) l (.lst (zs.drop 1))) qq (.lst ([v] ++ zs.drop 1))) t (.tup [V.str "words", V.ref qq]) t = some (.tup [V.str "words", V.ref qq]) := upd_same
          have hD9 := s69 _ _ hD6
          generalize upd (upd (upd (upd (upd H6 p1 (.lst [v])) p2 (.lst (zs.drop 1))) l (.lst (zs.drop 1))) qq (.lst ([v] ++ zs.drop 1))) t (.tup [V.str "words", V.ref qq]) = H9 at s69 hq9 ht9 hD9 ⊢
          have kd : KpT K H9 (del H9 D) := KpT.del hD9 trivial
          have hv9 : WordR (del H9 D) v w6 := wordR_s ((TupS.of s69).trans kd.tu) hv
          have oks : ∀ x ∈ ws.drop 1, OkM x := fun x hx => g1.2 x (List.mem_of_mem_drop hx)
          have hz9 : PySem.W.EachIs (WordR (del H9 D)) (zs.drop 1) (ws.drop 1) := eachs_imp (fun _ _ => wordR_s ((TupS.of (s6.trans s69)).trans kd.tu)) (eachs_drop 1 h4)
          refine ap (r' := .words (w6 :: ws.drop 1)) (s6.trans s69) ?_ (.inr ⟨ws, w6 :: ws.drop 1, rfl, rfl, ?_, g1.1, ?_⟩)
          · exact ⟨t, qq, v :: zs.drop 1, rfl, SqT.of (by rw [del_ne nt]; exact ht9), SqL.of (by rw [del_ne nq]; exact hq9), .cons hv9 hz9⟩
          · rw [List.length_cons, List.length_drop]
            omega
          · intro x hx
            rcases List.mem_cons.mp hx with e | hx
            · rw [e]
              exact okw
            · exact oks x hx
      | label z =>
        obtain ⟨a', rfl, h2⟩ := rl
        exact ⟨_, rfl, a', _, _, _, rfl, rfl, h2, at_of (i := 0) rfl, rfl, _, rfl, kNe (by decide +kernel) (iteF (ap (Same.refl H5) stay (.inl ⟨rfl, rs1⟩)))⟩
      | even n =>
        obtain ⟨a', rfl, h2⟩ := rl
        exact ⟨_, rfl, a', _, _, _, rfl, rfl, h2, at_of (i := 0) rfl, rfl, _, rfl, kNe (by decide +kernel) (iteF (ap (Same.refl H5) stay (.inl ⟨rfl, rs1⟩)))⟩
      | branch c n m =>
        obtain ⟨a', rfl, h2⟩ := rl
        exact ⟨_, rfl, a', _, _, _, rfl, rfl, h2, at_of (i := 0) rfl, rfl, _, rfl, kNe (by decide +kernel) (iteF (ap (Same.refl H5) stay (.inl ⟨rfl, rs1⟩)))⟩
    · rintro σ H4 ⟨a, b, ys, rs', rfl, kp, hD4, hys, rel⟩
      rw [lx, List.take_length] at rel
      exact ⟨_, rfl, q H4 D ys rs' (fun b o e => kp b o (ne_of_none e hD) e) hD hD4 (eachs_imp (fun _ _ => rowQ_same del_sub) hys) (rels_S rel hG) rel.length.symm (rels_lab rel)⟩
end

/-! ### the law's sums, labels put in -/
def segK (kvs : Mul) (k : Str) (us : List (List Key)) : Mul := (us.filter fun u => isK k u && !decide (getI kvs u = 0)).map fun u => (u, getI kvs u)
def accO (kvs : Mul) : Nat → Mul
  | 0 => []
  | 1 => segK kvs sPiece ((kvs.map (·.1)).mergeSort leT)
  | _ => segK kvs sPiece ((kvs.map (·.1)).mergeSort leT) ++ segK kvs sName ((kvs.map (·.1)).mergeSort leT)
theorem accO_2 (kvs : Mul) : accO kvs 2 = partsT kvs := by
  unfold partsT
  rw [List.map_append]
  rfl
theorem segK_snoc {kvs : Mul} {k : Str} {us : List (List Key)} {u : List Key} : segK kvs k (us ++ [u]) = segK kvs k us ++ (if (isK k u && !decide (getI kvs u = 0)) = true then [(u, getI kvs u)] else []) := by
  unfold segK
  rw [List.filter_append, List.map_append]
  congr 1
  cases c : (isK k u && !decide (getI kvs u = 0)) <;> simp [List.filter, c]
theorem segK_len (kvs : Mul) (k : Str) (us : List (List Key)) : (segK kvs k us).length ≤ us.length := by
  unfold segK
  rw [List.length_map]
  exact List.length_filter_le _ _
theorem mem_sortT {us : List (List Key)} {u : List Key} (h : u ∈ us.mergeSort leT) : u ∈ us := (List.mergeSort_perm us leT).mem_iff.mp h
def spTold (K : PySem.W.Frag) : Sp := fun vs H Q _ => ∃ (n : Int) (d : Addr) (kvs : Mul), vs = [.int n, .ref d] ∧ H d = some (.dT (vKv kvs)) ∧ (∀ u ∈ kvs.map (·.1), PnU u) ∧ kvs.length ≤ 400 ∧ ∀ v H', Same H H' → SumT H' v n (partsT kvs) → Q v H'
abbrev sTold : Stmt := topS 67
theorem scTold : FnScope ["number", "factors", "parts", "kind", "unknown"] ["number", "factors"] (defScope sTold) := ⟨rfl, rfl, rfl, by decide +kernel, rfl, by decide +kernel, by decide +kernel⟩
section
variable {P : Program} {w : World} {K : PySem.W.Frag} {mg : Str → Option Value} {base : Heap}
theorem ok_told {f : Addr} {fd : FuncData} (F : Fun K "_law_told_sum" "_law_told_sum" sTold f fd) (T : Bi mg) : FnOk P w K mg base CX0 2 f fd ["number", "factors"] (spTold K) := by
  refine F.ok scTold (fun vs H Q E h => ?_) (fun cdv A outer s H vs Q E hr h => ?_)
  · obtain ⟨n, d, kvs, rfl, _⟩ := h
    rfl
  · obtain ⟨n, d, kvs, rfl, hd, pn, few, q⟩ := h
    have hu := hu_of hr
    refine ⟨_, (pss_cons (ps_set (i := 2) scTold.nd rfl (.inl rfl) (pe_lst pa_nil))
      (pss_cons (ps_for PassesOwn.never rfl (pi_tup (pe_tup (pa_cons pe_str (pa_cons pe_str pa_nil)))) (pg_name (i := 3) scTold.nd rfl (.inl rfl)) (pss_one (ps_for PassesOwn.never rfl (pi_list (pe_callB (cr_sortedDT hr rfl) (by rfl) T.sorted (by decide +kernel) (pa_cons (pv 1) pa_nil))) (pg_name (i := 4) scTold.nd rfl (.inl rfl)) (pss_one (ps_if (PW.pt (pw_and (pt_cmpR op_eq (pe_ix ix_tup (pv 4) pe_int (fun _ _ => rfl)) (pv 3) (nomark _)) (pw_and1 (pt_cmpR op_ne (pe_dget hu (pv 1) (pv 4) (fun _ _ => rfl)) pe_int (nomark _))))) (pss_one (ps_expr (pe_bm PySem.F.plainAttrs_list PySem.F.slot_list_append PySem.F.type_list_append mt_append (pv 2) (pa_cons (pe_tup (pa_cons (pv 4) (pa_cons (pe_dget hu (pv 1) (pv 4) (fun _ _ => rfl)) pa_nil))) pa_nil)))) pss_nil)))))
      (pss_one (ps_ret (pe_tup (pa_cons (pv 0) (pa_cons (pe_callTy call_tuple_of (by rfl) T.tuple (by decide +kernel) (pa_cons (pv 2) pa_nil)) pa_nil))))))), ?_⟩
    refine ⟨Nat.zero_le _, fun D hD => ⟨(by show 2 ≤ sizeLine; decide), fun kk hkk => ?_⟩⟩
    have sD := same_new (o := .lst []) hD
    have sk := same_new (o := .tup [V.str "piece", V.str "name"]) hkk
    have s2 := sD.trans sk
    have hD2 : upd (upd H D (.lst [])) kk (.tup [V.str "piece", V.str "name"]) D = some (.lst []) := sk _ _ upd_same
    have hk2 : upd (upd H D (.lst [])) kk (.tup [V.str "piece", V.str "name"]) kk = some (.tup [V.str "piece", V.str "name"]) := upd_same
    refine ⟨kk, rfl, ⟨_, SqT.of hk2⟩, ?_⟩
    generalize upd (upd H D (.lst [])) kk (.tup [V.str "piece", V.str "name"]) = H2 at s2 hD2 hk2 ⊢
    have nkD : kk ≠ D := ne_of hk2 hD2 (by intro z; cases z)
    have hd2 := s2 _ _ hd
    have ndD : d ≠ D := ne_of hd2 hD2 (by intro z; cases z)
    have lenK : ((kvs.map (·.1)).mergeSort leT).length = kvs.length := by rw [(List.mergeSort_perm _ _).length_eq, List.length_map]
    refine for_it walk_tup (fun i σ H4 => ∃ (a b : Option V) (ys : List V), σ = [some (.int n), some (.ref d), some (.ref D), a, b] ∧ (∀ c o, c ≠ D → H2 c = some o → H4 c = some o) ∧ H4 D = some (.lst ys) ∧ PySem.W.EachIs (PartT H4) ys (accO kvs i))
      ⟨none, none, [], rfl, fun c o _ e => e, hD2, .nil⟩ (fun i σ H4 _ ⟨_, _, _, _, kp, _⟩ => SqT.of (kp _ _ nkD hk2)) ?_ ?_
    · rintro i x σ H4 H4' hi ⟨a, b, ys, rfl, kp, hD4, hys⟩ ⟨rfl, hx⟩
      obtain ⟨knd, rfl, hknd⟩ : ∃ knd, x = .str knd ∧ accO kvs (i + 1) = accO kvs i ++ segK kvs knd ((kvs.map (·.1)).mergeSort leT) := by
        match i, hi with
        | 0, _ => exact ⟨sPiece, (Option.some.inj hx).symm, rfl⟩
        | 1, _ => exact ⟨sName, (Option.some.inj hx).symm, rfl⟩
      have ali : (accO kvs i).length ≤ 400 := by
        match i, hi with
        | 0, _ => exact Nat.zero_le _
        | 1, _ =>
          have := segK_len kvs sPiece ((kvs.map (·.1)).mergeSort leT)
          show (segK kvs sPiece _).length ≤ 400
          omega
      have hd4 := kp _ _ ndD hd2
      refine ⟨_, rfl, d, vKv kvs, rfl, .inl hd4, ?_, by rw [vKv_len]; omega, fun us p hus hp => ?_⟩
      · intro u hu'
        have e : (vKv kvs).map (·.1) = kvs.map (·.1) := by
          unfold vKv
          rw [List.map_map]
          rfl
        rw [e] at hu'
        exact pn_nm (pn u hu')
      have e : (vKv kvs).map (·.1) = kvs.map (·.1) := by
        unfold vKv
        rw [List.map_map]
        rfl
      rw [e] at hus
      have sp := same_new (o := .lst us) hp
      have hp5 : upd H4' p (.lst us) p = some (.lst us) := upd_same
      have hD5 := sp _ _ hD4
      have hys5 := eachs_imp (fun _ _ => partT_s (TupS.of sp)) hys
      have hus5 := each_same sp hus
      have kp5 : ∀ c o, c ≠ D → H2 c = some o → upd H4' p (.lst us) c = some o := fun c o hc e => sp _ _ (kp c o hc e)
      have npD : p ≠ D := fun z => by rw [z, hD4] at hp; cases hp
      generalize upd H4' p (.lst us) = H5 at sp hp5 hD5 hys5 hus5 kp5 ⊢
      have lu : us.length = kvs.length := hus5.length.trans lenK
      refine ⟨p, rfl, ⟨_, SqL.of hp5⟩, ?_⟩
      refine for_it walk_list (fun j σ H6 => ∃ (b : Option V) (zs : List V), σ = [some (.int n), some (.ref d), some (.ref D), some (.str knd), b] ∧ (∀ c o, c ≠ D → H5 c = some o → H6 c = some o) ∧ H6 D = some (.lst zs) ∧ PySem.W.EachIs (PartT H6) zs (accO kvs i ++ segK kvs knd (((kvs.map (·.1)).mergeSort leT).take j)))
        ⟨b, ys, rfl, fun c o _ e => e, hD5, by rw [List.take_zero]; show PySem.W.EachIs _ _ (accO kvs i ++ []); rw [List.append_nil]; exact hys5⟩ (fun j σ H6 _ ⟨_, _, _, kp6, _⟩ => SqL.of (kp6 _ _ npD hp5)) ?_ ?_
      · rintro j y σ H6 H6' hj ⟨b', zs, rfl, kp6, hD6, hzs⟩ ⟨rfl, hy⟩
        obtain ⟨u, hu1, ua, rfl, hua⟩ := each_get hus5 hy
        have hmem : u ∈ kvs.map (·.1) := mem_sortT (List.mem_of_getElem? hu1)
        obtain ⟨k, z, rfl, hk⟩ := pn u hmem
        have nuD : ua ≠ D := ne_of hua hD5 (by intro z; cases z)
        have hua6 := kp6 _ _ nuD hua
        have hd6 := kp6 _ _ ndD (kp5 _ _ ndD hd2)
        have hj2 : j < kvs.length := by omega
        have tk : ((kvs.map (·.1)).mergeSort leT).take (j + 1) = ((kvs.map (·.1)).mergeSort leT).take j ++ [[.inr k, .inr z]] := by
          rw [List.take_add_one, hu1]
          rfl
        have zl : zs.length ≤ 800 := by
          rw [hzs.length, List.length_append]
          have := segK_len kvs knd (((kvs.map (·.1)).mergeSort leT).take j)
          rw [List.length_take] at this
          omega
        have stay : (isK knd [.inr k, .inr z] && !decide (getI kvs [.inr k, .inr z] = 0)) = false → ∃ (b : Option V) (zs : List V), ([some (.int n), some (.ref d), some (.ref D), some (.str knd), some (.ref ua)] : L2.St) = [some (.int n), some (.ref d), some (.ref D), some (.str knd), b] ∧ (∀ c o, c ≠ D → H5 c = some o → H6' c = some o) ∧ H6' D = some (.lst zs) ∧ PySem.W.EachIs (PartT H6') zs (accO kvs i ++ segK kvs knd (((kvs.map (·.1)).mergeSort leT).take (j + 1))) := fun e => by
          refine ⟨_, zs, rfl, kp6, hD6, ?_⟩
          rw [tk, segK_snoc, e, if_neg Bool.false_ne_true, List.append_nil]
          exact hzs
        have ek : isK knd [.inr k, .inr z] = decide (k = knd) := rfl
        refine ⟨_, rfl, ua, _, _, _, rfl, rfl, SqT.of hua6, at_of (i := 0) rfl, _, rfl, rfl, _, rfl, ?_⟩
        show if decide (V.str k = V.str knd) = true then _ else _
        rw [strEq]
        cases c : decide (k = knd) with
        | false => exact iteF (iteF (stay (by rw [ek, c]; rfl)))
        | true =>
          refine iteT ⟨_, rfl, _, rfl, d, .int (getI kvs [.inr k, .inr z]), rfl, .inr ⟨vKv kvs, [.inr k, .inr z], ua, .inl hd6, rfl, hua6, (valV_mem hmem).symm⟩, rfl, _, rfl, ?_⟩
          rw [intEq]
          cases c2 : !decide (getI kvs [.inr k, .inr z] = 0) with
          | false => exact iteF (stay (by rw [ek, c, c2]; rfl))
          | true =>
            refine iteT ⟨_, rfl, .inl ⟨rfl, _, SqL.of hD6⟩, _, rfl, _, rfl, _, rfl, d, .int (getI kvs [.inr k, .inr z]), rfl, .inr ⟨vKv kvs, [.inr k, .inr z], ua, .inl hd6, rfl, hua6, (valV_mem hmem).symm⟩, (by show 2 ≤ sizeLine; decide), fun t ht => ?_⟩
            have st := same_new (o := .tup [V.ref ua, V.int (getI kvs [.inr k, .inr z])]) ht
            have hD7 := st _ _ hD6
            have tp : TupS (upd H6' t (.tup [V.ref ua, V.int (getI kvs [.inr k, .inr z])])) (upd (upd H6' t (.tup [V.ref ua, V.int (getI kvs [.inr k, .inr z])])) D (.lst (zs ++ [.ref t]))) := TupS.put hD7 (by intro xs z; cases z)
            refine ⟨D, zs, _, rfl, rfl, hD7, small1000 (by omega), some (.ref ua), zs ++ [.ref t], rfl, fun c' o hc e => ?_, upd_same, ?_⟩
            · rw [upd_ne hc]
              exact st _ _ (kp6 c' o hc e)
            · rw [tk, segK_snoc, ek, c, c2]
              show PySem.W.EachIs _ _ (accO kvs i ++ (_ ++ [_]))
              rw [← List.append_assoc]
              exact eachs_snoc ⟨t, ua, rfl, tp _ _ upd_same, tp _ _ (st _ _ hua6)⟩ (eachs_imp (fun _ _ => partT_s ((TupS.of st).trans tp)) hzs)
      · rintro σ H6 ⟨b', zs, rfl, kp6, hD6, hzs⟩
        have tl : ((kvs.map (·.1)).mergeSort leT).take us.length = (kvs.map (·.1)).mergeSort leT := by rw [lu, ← lenK]; exact List.take_length
        rw [tl, ← hknd] at hzs
        exact ⟨_, _, zs, rfl, fun c o hc e => kp6 c o hc (kp5 c o hc e), hD6, hzs⟩
    · rintro σ H4 ⟨a, b, ys, rfl, kp, hD4, hys⟩
      have hys2 : PySem.W.EachIs (PartT H4) ys (accO kvs 2) := hys
      rw [accO_2] at hys2
      have s4 : Same H H4 := fun c o e => kp c o (ne_of_none e hD) (s2 _ _ e)
      refine ⟨_, rfl, _, rfl, D, ys, rfl, .inl ⟨SqL.of hD4, fun t ht => ⟨(by show 2 ≤ sizeLine; decide), fun r hr' => ?_⟩⟩⟩
      have st := same_new (o := .tup ys) ht
      have sr := same_new (o := .tup [V.int n, V.ref t]) hr'
      exact q _ _ ((s4.trans st).trans sr) ⟨r, t, ys, rfl, upd_same, sr _ _ upd_same, eachs_imp (fun _ _ => partT_s (TupS.of (st.trans sr))) hys2⟩
end

/-- a word with labels put in, the law's way -/
def lawW (g : Str → Option Int) (p : Str) : WordM → Int × Mul
  | .num k => (k, [])
  | .sum n l => ((putAll g p n l).1, partsT (putAll g p n l).2)
theorem lawW_eq {g : Str → Option Int} {p : Str} {w : WordM} (h : OkM w) : wordW g p w = lawW g p w := by
  cases w with
  | num k =>
    have e : form [] = [] := by simp [form, keysN]
    show (k, form []) = (k, [])
    rw [e]
  | sum n l =>
    obtain ⟨e1, e2⟩ := ways_one (g := g) (p := p) (n := n) (l := l) fun u hu => by
      obtain ⟨q, hq, rfl⟩ := List.mem_map.mp hu
      exact okU_pn (h.2 q hq).1
    exact Prod.ext e1 e2
def spPutIn (K : PySem.W.Frag) : Sp := fun vs H Q _ => ∃ (v : V) (w : WordM) (d : Addr) (lk : List (Key × V)) (g : Str → Option Int) (p : Str), vs = [v, .ref d, .str p] ∧ WordR H v w ∧ OkM w ∧ H d = some (.dK lk) ∧ (∀ z, valV lk (Sum.inr z) = (g z).map V.int) ∧ ∀ v' H', Same H H' → SumE H' v' (lawW g p w) → Q v' H'
abbrev sPutIn : Stmt := topS 68
theorem scPutIn : FnScope ["one", "labels", "p", "number", "factors", "unknown", "many"] ["one", "labels", "p"] (defScope sPutIn) := ⟨rfl, rfl, rfl, by decide +kernel, rfl, by decide +kernel, by decide +kernel⟩
section
variable {P : Program} {w : World} {K : PySem.W.Frag} {mg : Str → Option Value} {base : Heap}
theorem ok_putIn {f : Addr} {fd : FuncData} (F : Fun K "_law_put_in" "_law_put_in" sPutIn f fd) (T : Bi mg) (G : Has P w K mg base CX0 2 "_law_told_sum" ["number", "factors"] (spTold K)) : FnOk P w K mg base CX0 3 f fd ["one", "labels", "p"] (spPutIn K) := by
  refine F.ok scPutIn (fun vs H Q E h => ?_) (fun cdv A outer s H vs Q E hr h => ?_)
  · obtain ⟨v, wd, d, lk, g, p, rfl, _⟩ := h
    rfl
  · obtain ⟨v, wd, d, lk, g, p, rfl, hv, okw, hd, hlk, q⟩ := h
    have hu := hu_of hr
    refine ⟨_, (pss_cons (ps_if (pt_val (pe_callB call_isi (by rfl) T.isinstance (by decide +kernel) (pa_cons (pv 0) (pa_cons (pe_bltn (v := .ty "int") (by rfl) T.int (by decide +kernel) rfl) pa_nil)))) (pss_one (ps_ret (pe_tup (pa_cons (pv 0) (pa_cons (pe_tup pa_nil) pa_nil))))) pss_nil)
      (pss_cons (ps_par rfl scPutIn.nd (i := 3) (j := 4) rfl rfl (by decide) rfl rfl (pa_cons (pe_ix ix_tup (pv 0) pe_int (fun _ _ => rfl)) (pa_cons pe_dnewT pa_nil)) (by rfl))
      (pss_cons (ps_for PassesOwn.never rfl (pi_tup (pe_ix ix_tup (pv 0) pe_int (fun _ _ => rfl))) (pg_tup rfl (pgs_cons (pg_name (i := 5) scPutIn.nd rfl (.inl rfl)) (pgs_cons (pg_name (i := 6) scPutIn.nd rfl (.inl rfl)) pgs_nil))) (pss_cons (ps_if (PW.pt (pw_and (pt_cmpR op_eq (pe_ix ix_tup (pv 5) pe_int (fun _ _ => rfl)) pe_str (nomark _)) (pw_and1 (pt_cmp (pc_din hu (pe_ix ix_tup (pv 5) pe_int (fun _ _ => rfl)) (pv 1)))))) (pss_cons (ps_set (i := 3) scPutIn.nd rfl (.inl rfl) (pe_op op_add (pv 3) (pe_op op_mul (pv 6) (pe_dget hu (pv 1) (pe_ix ix_tup (pv 5) pe_int (fun _ _ => rfl)) (fun _ _ => rfl)))))
          (pss_one (ps_set (i := 5) scPutIn.nd rfl (.inl rfl) (pe_tup (pa_cons pe_str (pa_cons (pv 2) pa_nil)))))) pss_nil)
        (pss_one (ps_dput hu (pv 4) (pv 5) (pe_op op_add (pe_dget2 hu (pv 4) (pv 5) pe_int ⟨rfl, rfl, rfl, rfl⟩) (pv 6)) rfl))))
      (pss_one (ps_ret (pe_callH G hr (by rfl) pass0 (pa_cons (pv 3) (pa_cons (pv 4) pa_nil)))))))), ?_⟩
    cases wd with
    | num k =>
      obtain rfl : v = .int k := hv
      refine ⟨_, rfl, .int k, _, _, _, _, rfl, .ty "int", th_ty (.dat (.int k)), kit_int (.int k), _, rfl, iteT ?_⟩
      refine ⟨_, rfl, Nat.zero_le _, fun e he => ⟨(by show 2 ≤ sizeLine; decide), fun r hr' => ?_⟩⟩
      exact q _ _ ((same_new he).trans (same_new hr')) ⟨r, e, [], rfl, upd_same, same_new hr' _ _ upd_same, .nil⟩
    | sum n l =>
      have th : Th K H v (sumD n l) := .dat (sumT_dp hv)
      obtain ⟨a, b, xs, rfl, ha, hb, hxs⟩ := id hv
      have lx : xs.length = l.length := hxs.length
      have l4 := okw.1
      refine ⟨_, rfl, .ref a, _, _, _, _, rfl, .ty "int", th_ty th, kit_int (sumD n l), _, rfl, iteF ?_⟩
      refine ⟨_, rfl, a, _, _, _, rfl, rfl, SqT.of ha, at_of (i := 0) rfl, fun D hD => ⟨_, _, rfl, ?_⟩⟩
      have sD : Same H (upd H D (.dT [])) := same_new hD
      refine ⟨_, rfl, a, _, _, _, rfl, rfl, SqT.of (sD _ _ ha), at_of (i := 1) rfl, b, rfl, ⟨_, SqT.of (sD _ _ hb)⟩, ?_⟩
      refine for_it walk_tup (fun i σ H4 => ∃ (u m : Option V), σ = [some (.ref a), some (.ref d), some (.str p), some (.int ((l.take i).foldl (putIn g p) (n, [])).1), some (.ref D), u, m] ∧ Same H H4 ∧ H4 D = some (.dT (vKv ((l.take i).foldl (putIn g p) (n, [])).2)))
        ⟨none, none, rfl, sD, upd_same⟩ (fun i σ H4 _ ⟨_, _, _, s4, _⟩ => SqT.of (s4 _ _ hb)) ?_ ?_
      · rintro i x σ H4 H4' hi ⟨u0, m0, rfl, s4, hD4⟩ ⟨rfl, hx⟩
        obtain ⟨u, m, c, e, hum, rfl, hc, he⟩ := part_get hxs hx
        have hi2 : i < l.length := (List.getElem?_eq_some_iff.mp hum).1
        obtain ⟨⟨k, z, eu, hk, hz⟩, m1, m2⟩ := okw.2 _ (List.mem_of_getElem? hum)
        have eu : u = [.inr k, .inr z] := eu
        subst eu
        have m1 : -4 ≤ m := m1
        have m2 : m ≤ 4 := m2
        have hc4 := s4 _ _ hc
        have he4 := s4 _ _ he
        generalize hacc : (l.take i).foldl (putIn g p) (n, []) = acc at *
        have step : (l.take (i + 1)).foldl (putIn g p) (n, []) = putIn g p acc ([.inr k, .inr z], m) := by
          rw [List.take_add_one, hum, List.foldl_append, hacc]
          rfl
        have al : acc.2.length ≤ i := by
          rw [← hacc]
          refine Nat.le_trans (putAll_len _ _) ?_
          rw [List.length_take]
          show 0 + _ ≤ _
          omega
        refine ⟨c, _, rfl, SqT.of hc4, rfl, _, _, rfl, _, _, rfl, rfl, ?_⟩
        -- the last statement
        have put : ∀ {H9 : Hp} {ub : Addr} {uu : List Key} {nn : Int}, Same H4' H9 → H9 ub = some (.tup (uu.map kV)) → putIn g p acc ([.inr k, .inr z], m) = (nn, addP acc.2 uu m) →
            sDPut (tVar 4) (tVar 5) (tOp (rI0 fun i j => .int (i + j)) (tDGet2 (tVar 4) (tVar 5) (tC (.int 0))) (tVar 6)) { nx := fun σ H4 => ∃ (u m : Option V), σ = [some (.ref a), some (.ref d), some (.str p), some (.int ((l.take (i + 1)).foldl (putIn g p) (n, [])).1), some (.ref D), u, m] ∧ Same H H4 ∧ H4 D = some (.dT (vKv ((l.take (i + 1)).foldl (putIn g p) (n, [])).2)), rt := Q } [some (.ref a), some (.ref d), some (.str p), some (.int nn), some (.ref D), some (.ref ub), some (.int m)] H9 := by
          intro H9 ub uu nn s9 hub ep
          have hD9 := s9 _ _ hD4
          refine ⟨_, rfl, D, rfl, .inr ⟨_, .inl hD9⟩, _, rfl, _, DGet.t hD9 hub, _, rfl, getI acc.2 uu, m, getD_val acc.2 uu, rfl, ?_⟩
          refine ⟨_, rfl, _, rfl, D, _, rfl, DPut.t hD9 hub (by
            rw [vKv_len]
            exact small1000 (by omega)), ?_⟩
          rw [put_vKv]
          refine ⟨some (.ref ub), some (.int m), by rw [step, ep], fun b' o' eb => ?_, ?_⟩
          · rw [upd_ne (ne_of_none eb hD)]
            exact s9 _ _ (s4 _ _ eb)
          · rw [upd_same, step, ep]
            rfl
        refine ⟨_, rfl, e, _, _, _, rfl, rfl, SqT.of he4, at_of (i := 0) rfl, rfl, _, rfl, ?_⟩
        show if decide (V.str k = V.str sName) = true then _ else _
        rw [strEq]
        cases ck : decide (k = sName) with
        | false =>
          have nk : ¬ k = sName := of_decide_eq_false ck
          refine iteF (iteF (put (nn := acc.1) (uu := [.inr k, .inr z]) (Same.refl _) he4 ?_))
          unfold putIn
          simp [nk]
        | true =>
          have yk : k = sName := of_decide_eq_true ck
          subst yk
          refine iteT ⟨_, rfl, e, _, _, _, rfl, rfl, SqT.of he4, at_of (i := 1) rfl, _, rfl, d, _, rfl, DGet.k (k := Sum.inr z) (s4 _ _ hd), _, rfl, ?_⟩
          rw [hlk z]
          cases hg : g z with
          | none =>
            refine iteF (put (nn := acc.1) (uu := [.inr sName, .inr z]) (Same.refl _) he4 ?_)
            unfold putIn
            simp [hg]
          | some o =>
            refine iteT ⟨_, rfl, _, rfl, _, rfl, _, rfl, e, _, _, _, rfl, rfl, SqT.of he4, at_of (i := 1) rfl, d, .int o, rfl, ?_, m, o, rfl, rfl, .inl ⟨by omega, by omega⟩, _, _, rfl, rfl, ?_⟩
            · have gg := DGet.k (k := Sum.inr z) (s4 _ _ hd)
              rw [hlk z, hg] at gg
              exact gg
            · refine ⟨_, rfl, (by show 2 ≤ sizeLine; decide), fun t ht => ?_⟩
              have st := same_new (o := .tup [V.str "piece", V.str p]) ht
              refine put (nn := acc.1 + m * o) (uu := pieceU p) st upd_same ?_
              unfold putIn
              simp [hg]
      · rintro σ H4 ⟨u0, m0, rfl, s4, hD4⟩
        rw [lx, List.take_length] at hD4
        rw [lx, List.take_length]
        have al : (l.foldl (putIn g p) (n, [])).2.length ≤ l.length := by
          refine Nat.le_trans (putAll_len _ _) ?_
          show 0 + _ ≤ _
          omega
        refine ⟨_, rfl, _, rfl, _, D, _, rfl, hD4, putAll_pn (fun u hu' => ?_) (fun u hu' => by cases hu'), by omega, fun v' H5 s5 hv' => q v' H5 (s4.trans s5) hv'⟩
        obtain ⟨q', hq, rfl⟩ := List.mem_map.mp hu'
        exact okU_pn (okw.2 q' hq).1
end

/-! ### the law's words -/
/-- the words of a row, the law's way -/
def rowL (f : Int → Bool) (rs : List Row) (p : Str) (i : Nat) : Row → List (Int × Mul)
  | .words ws => ws.map (lawW (adr f rs) p)
  | .even _ => List.replicate (off f rs (i + 1) - off f rs i).toNat (9, [])
  | .label _ => []
  | .branch c n m => if f (i : Nat) = true then [(farC c, []), lawW (adr f rs) p (.sum m [(nameU n, 1)])] else [(nearC c + 2048 * way f rs i, [])]
def codL (f : Int → Bool) (rs : List Row) (p : Str) : Nat → List (Int × Mul)
  | 0 => []
  | i + 1 => codL f rs p i ++ (match rs[i]? with
    | some r => rowL f rs p i r
    | none => [])
theorem codL_succ {f : Int → Bool} {rs : List Row} {p : Str} {i : Nat} {r : Row} (h : rs[i]? = some r) : codL f rs p (i + 1) = codL f rs p i ++ rowL f rs p i r := by
  show codL f rs p i ++ _ = _
  rw [h]
/-- the labels' addresses as a dict -/
def offV (f : Int → Bool) (rs : List Row) : V → V
  | .int j => .int (off f rs j.toNat)
  | v => v
def lkD (f : Int → Bool) (rs : List Row) (kvs : List (Key × V)) : List (Key × V) := kvs.map fun q => (q.1, offV f rs q.2)
theorem merge_nod : ∀ {more kvs : List (Key × V)}, ((kvs ++ more).map (·.1)).Nodup → mergeK kvs more = kvs ++ more
  | [], kvs, _ => by rw [List.append_nil]; rfl
  | q :: more, kvs, nd => by
    have e : mergeK kvs (q :: more) = mergeK (putK kvs q.1 q.2) more := rfl
    have hk : q.1 ∉ kvs.map (·.1) := fun z => by
      rw [List.map_append] at nd
      exact (List.nodup_append.mp nd).2.2 q.1 z q.1 (by simp) rfl
    rw [e, putK_out _ hk, merge_nod (by rw [List.append_assoc]; exact nd), List.append_assoc]
    rfl
theorem lkD_merge (f : Int → Bool) (rs : List Row) : mergeK [] (lkD f rs (spD rs rs.length)) = lkD f rs (spD rs rs.length) := by
  rw [merge_nod]
  · rfl
  · rw [List.nil_append]
    unfold lkD
    rw [List.map_map]
    exact spD_nod rs _
theorem lkD_val (f : Int → Bool) (rs : List Row) : ∀ (kvs : List (Key × V)) (k : Key), valV (lkD f rs kvs) k = (valV kvs k).map (offV f rs)
  | [], k => rfl
  | q :: kvs, k => by
    show valV ((q.1, offV f rs q.2) :: lkD f rs kvs) k = _
    by_cases c : q.1 = k
    · have e1 : valV ((q.1, offV f rs q.2) :: lkD f rs kvs) k = some (offV f rs q.2) := valV_pos c
      have e2 : valV (q :: kvs) k = some q.2 := valV_pos c
      rw [e1, e2]
      rfl
    · have e1 : valV ((q.1, offV f rs q.2) :: lkD f rs kvs) k = valV (lkD f rs kvs) k := valV_neg c
      have e2 : valV (q :: kvs) k = valV kvs k := valV_neg c
      rw [e1, e2]
      exact lkD_val f rs kvs k
theorem lkD_adr (f : Int → Bool) (rs : List Row) (z : Str) : valV (lkD f rs (spD rs rs.length)) (Sum.inr z) = (adr f rs z).map V.int := by
  rw [lkD_val]
  have e := spot_spV rs z
  have e2 : valV (spD rs rs.length) (Sum.inr z) = (spot rs z).map fun j => V.int ((j : Nat) : Int) := e
  rw [e2]
  unfold adr
  cases spot rs z with
  | none => rfl
  | some j =>
    show some (V.int (off f rs ((j : Nat) : Int).toNat)) = some (V.int (off f rs j))
    rw [Int.toNat_natCast]
abbrev sLCo : Stmt := topS 69
abbrev NLC : List Str := ["rows", "far", "p", "begins", "gaps", "spots", "found", "labels", "k", "row", "code", "n", "one"]
theorem scLCo : FnScope NLC ["rows", "far", "p"] (defScope sLCo) := ⟨rfl, rfl, rfl, by decide +kernel, rfl, by decide +kernel, by decide +kernel⟩
def spLCo (K : PySem.W.Frag) : Sp := fun vs H Q _ => ∃ (L l : Addr) (xs : List V) (rs : List Row) (ns : List Int) (p : Str), vs = [.ref L, .ref l, .str p] ∧ SqL K H L xs ∧ PySem.W.EachIs (RowQ K H) xs rs ∧ DraftS rs ∧ SqE K H l (ns.map V.int) ∧ (∀ k ∈ outs rs, ((k : Nat) : Int) ∈ ns) ∧
  ∀ H' q ys, Same H H' → H q = none → H' q = some (.lst ys) → PySem.W.EachIs (SumE H') ys (codL (mem ns) rs p rs.length) → ys.length ≤ 100000 → Q (.ref q) H'

theorem codT_codL {f : Int → Bool} {rs : List Row} {p : Str} (h : DraftS rs) : ∀ i, codT f rs p i = codL f rs p i
  | 0 => rfl
  | i + 1 => by
    unfold codT codL
    rw [codT_codL h i]
    congr 1
    cases e : rs[i]? with
    | none => rfl
    | some r =>
      have g := h.rows r (List.mem_of_getElem? e)
      cases r with
      | words ws =>
        have g' : ws.length ≤ 255 ∧ ∀ w ∈ ws, OkM w := g
        show ws.map (wordW (adr f rs) p) = ws.map (lawW (adr f rs) p)
        exact List.map_congr_left fun w hw => lawW_eq (g'.2 w hw)
      | label s => rfl
      | even n => rfl
      | branch c n m =>
        have hn := S_br h i c n m e
        show (if f (i : Nat) = true then _ else _) = (if f (i : Nat) = true then _ else _)
        cases f (i : Nat) with
        | true =>
          rw [if_pos rfl, if_pos rfl]
          have ou : PnU (subU (adr f rs) p (nameU n)) := subU_pn ⟨_, _, rfl, .inr rfl⟩
          have e2 : lawW (adr f rs) p (.sum m [(nameU n, 1)]) = (m + subN (adr f rs) (nameU n), [(subU (adr f rs) p (nameU n), 1)]) := by
            show ((putAll (adr f rs) p m [(nameU n, 1)]).1, partsT (putAll (adr f rs) p m [(nameU n, 1)]).2) = _
            rw [putAll_one]
            have e3 : partsT [(subU (adr f rs) p (nameU n), 1)] = [(subU (adr f rs) p (nameU n), 1)] := by
              rw [partsT_form fun u hu => ?_, form_one]
              have : u = subU (adr f rs) p (nameU n) := by simpa using hu
              rw [this]
              exact ou
            exact Prod.ext rfl e3
          rw [e2]
        | false =>
          rw [if_neg Bool.false_ne_true, if_neg Bool.false_ne_true]
          have ea : aim rs i = spot rs n := by
            unfold aim
            rw [toOf_at e]
            rfl
          have e2 : (adr f rs n).getD 0 - off f rs i = way f rs i := by
            unfold way adr
            rw [ea]
            cases spot rs n with
            | none => rfl
            | some j => rfl
          rw [e2]
/-- the loop's slots -/
abbrev σC (L l : Addr) (p : Str) (B G S D Lb : Addr) (k row code : Option V) : L2.St := [some (.ref L), some (.ref l), some (.str p), some (.ref B), some (.ref G), some (.ref S), some (.ref D), some (.ref Lb), k, row, code, none, none]
/-- what stands while the loop runs -/
structure CoH (K : PySem.W.Frag) (L l B G : Addr) (xs : List V) (rs : List Row) (ns : List Int) (H : Hp) : Prop where
  rows : PySem.W.EachIs (RowQ K H) xs rs
  lst : SqL K H L xs
  far : SqE K H l (ns.map V.int)
  beg : H B = some (.lst (offTo (mem ns) rs rs.length))
  gap : H G = some (.dK (wayD (mem ns) rs))
theorem CoH.same {K : PySem.W.Frag} {L l B G : Addr} {xs : List V} {rs : List Row} {ns : List Int} {H H' : Hp} (h : CoH K L l B G xs rs ns H) (e : Same H H') : CoH K L l B G xs rs ns H' :=
  ⟨eachs_imp (fun _ _ => rowQ_same e) h.rows, sqL_same e h.lst, sqE_same e h.far, e _ _ h.beg, e _ _ h.gap⟩
/-- the loop's state behind i rows -/
structure CoS (K : PySem.W.Frag) (D Lb : Addr) (rs : List Row) (ns : List Int) (p : Str) (Hb : Hp) (cs : List (Int × Mul)) (n : Nat) (H : Hp) : Prop where
  kp : ∀ c o, c ≠ D → Hb c = some o → H c = some o
  lab : H Lb = some (.dK (lkD (mem ns) rs (spD rs rs.length)))
  lst : ∃ zs, H D = some (.lst zs) ∧ PySem.W.EachIs (SumE H) zs cs ∧ zs.length ≤ n
theorem CoS.same {K : PySem.W.Frag} {D Lb : Addr} {rs : List Row} {ns : List Int} {p : Str} {Hb : Hp} {cs : List (Int × Mul)} {n : Nat} {H H' : Hp} (h : CoS K D Lb rs ns p Hb cs n H) (e : Same H H') : CoS K D Lb rs ns p Hb cs n H' := by
  obtain ⟨kp, lb, zs, h1, h2, h3⟩ := h
  exact ⟨fun c o hc x => e _ _ (kp c o hc x), e _ _ lb, zs, e _ _ h1, eachs_imp (fun _ _ => sumE_s (TupS.of e)) h2, h3⟩
theorem CoS.sm {K : PySem.W.Frag} {D Lb : Addr} {rs : List Row} {ns : List Int} {p : Str} {Hb : Hp} {cs : List (Int × Mul)} {n : Nat} {H : Hp} (h : CoS K D Lb rs ns p Hb cs n H) (hD : Hb D = none) : Same Hb H := fun c o e => h.kp c o (ne_of_none e hD) e
/-- words behind -/
theorem CoS.put {K : PySem.W.Frag} {D Lb : Addr} {rs : List Row} {ns : List Int} {p : Str} {Hb : Hp} {cs ds : List (Int × Mul)} {n m : Nat} {H : Hp} {zs ys : List V} (kp : ∀ c o, c ≠ D → Hb c = some o → H c = some o) (lb : H Lb = some (.dK (lkD (mem ns) rs (spD rs rs.length)))) (hD : H D = some (.lst zs)) (h : PySem.W.EachIs (SumE H) zs cs) (l : zs.length ≤ n) (g : PySem.W.EachIs (SumE H) ys ds) (l2 : ys.length ≤ m) : CoS K D Lb rs ns p Hb (cs ++ ds) (n + m) (upd H D (.lst (zs ++ ys))) := by
  have tp : TupS H (upd H D (.lst (zs ++ ys))) := TupS.put hD (by intro xs z; cases z)
  refine ⟨fun c o hc e => by rw [upd_ne hc]; exact kp c o hc e, by rw [upd_ne (ne_of lb hD (by intro z; cases z))]; exact lb, zs ++ ys, upd_same, eachs_app (eachs_imp (fun _ _ => sumE_s tp) h) (eachs_imp (fun _ _ => sumE_s tp) g), ?_⟩
  rw [List.length_append]
  omega
section
variable {K : PySem.W.Frag} {L l B G S D Lb : Addr} {p : Str} {xs : List V} {rs : List Row} {ns : List Int} {Hb H : Hp} {cs : List (Int × Mul)} {n i : Nat} {DE : Ends} {u : TS} {k code : Option V}
/-- a test on a row's kind -/
theorem kind_no {z kd : Str} {a : Addr} {F : Bool → Hp → Prop} {zs : List V} (h : SqT K H a zs) (h0 : zs[0]? = some (.str kd)) (no : decide (kd = z) = false) (q : F false H) : tTest (tOp rEq (tOp (rIxT K) (tVar 9) (tC (.int 0))) (tC (.str z))) (σC L l p B G S D Lb k (some (.ref a)) code) H F := by
  refine ⟨_, rfl, a, zs, _, _, rfl, rfl, h, at_of (i := 0) h0, rfl, false, ?_, q⟩
  rw [strEq, no]
theorem kind_yes {z kd : Str} {a : Addr} {F : Bool → Hp → Prop} {zs : List V} (h : SqT K H a zs) (h0 : zs[0]? = some (.str kd)) (yes : decide (kd = z) = true) (q : F true H) : tTest (tOp rEq (tOp (rIxT K) (tVar 9) (tC (.int 0))) (tC (.str z))) (σC L l p B G S D Lb k (some (.ref a)) code) H F := by
  refine ⟨_, rfl, a, zs, _, _, rfl, rfl, h, at_of (i := 0) h0, rfl, true, ?_, q⟩
  rw [strEq, yes]
abbrev tKind (K : PySem.W.Frag) (z : Str) : TT := tTest (tOp rEq (tOp (rIxT K) (tVar 9) (tC (.int 0))) (tC (.str z)))
abbrev tExt (K : PySem.W.Frag) (te : TE) : TS := tDrop (tBM K "list" rExtend (tVar 6) (tCons te tNil))
abbrev tApp (K : PySem.W.Frag) (te : TE) : TS := tDrop (tBM K "list" rAppend (tVar 6) (tCons te tNil))
/-- an extend by new words -/
theorem co_ext {te : TE} {row : Option V} {ds : List (Int × Mul)} {m : Nat} (St : CoS K D Lb rs ns p Hb cs n H) (hn : n + m ≤ 200000) (mk : ∀ (Q : VK), (∀ H' q ys, Same H H' → H q = none → H' q = some (.lst ys) → PySem.W.EachIs (SumE H') ys ds → ys.length ≤ m → Q (.ref q) H') → te (σC L l p B G S D Lb k row code) H Q)
    (go : ∀ H', CoS K D Lb rs ns p Hb (cs ++ ds) (n + m) H' → DE.nx (σC L l p B G S D Lb k row code) H') : tExt K te DE (σC L l p B G S D Lb k row code) H := by
  obtain ⟨kp, lb, zs, hD, hz, lz⟩ := St
  refine ⟨_, rfl, .inl ⟨rfl, _, SqL.of hD⟩, mk _ fun H1 q ys s1 hq hq1 hys ly => ⟨D, q, zs, ys, rfl, rfl, s1 _ _ hD, hq1, ?_, go _ (CoS.put (fun c o hc e => s1 _ _ (kp c o hc e)) (s1 _ _ lb) (s1 _ _ hD) (eachs_imp (fun _ _ => sumE_s (TupS.of s1)) hz) lz hys ly)⟩⟩
  rw [sizeLine_eq]
  omega
/-- an append of a new word -/
theorem co_app {te : TE} {row : Option V} {d : Int × Mul} (St : CoS K D Lb rs ns p Hb cs n H) (hn : n ≤ 200000) (mk : ∀ (Q : VK), (∀ H' v, Same H H' → SumE H' v d → Q v H') → te (σC L l p B G S D Lb k row code) H Q)
    (go : ∀ H', CoS K D Lb rs ns p Hb (cs ++ [d]) (n + 1) H' → DE.nx (σC L l p B G S D Lb k row code) H') : tApp K te DE (σC L l p B G S D Lb k row code) H := by
  obtain ⟨kp, lb, zs, hD, hz, lz⟩ := St
  refine ⟨_, rfl, .inl ⟨rfl, _, SqL.of hD⟩, mk _ fun H1 v s1 hv => ⟨D, zs, v, rfl, rfl, s1 _ _ hD, smallB (by omega), go _ (CoS.put (fun c o hc e => s1 _ _ (kp c o hc e)) (s1 _ _ lb) (s1 _ _ hD) (eachs_imp (fun _ _ => sumE_s (TupS.of s1)) hz) lz (.cons hv .nil) (Nat.le_refl 1))⟩⟩
end

theorem codes_at {c : Str} (h : c ∈ nearL) : valV (mergeK [] [(Sum.inr "ask", V.int 3), (Sum.inr "go", V.int 5), (Sum.inr "call", V.int 14)] : List (Key × V)) (Sum.inr c) = some (.int (nearC c)) := by
  have : ∀ c ∈ nearL, valV (mergeK [] [(Sum.inr "ask", V.int 3), (Sum.inr "go", V.int 5), (Sum.inr "call", V.int 14)] : List (Key × V)) (Sum.inr c) = some (.int (nearC c)) := by
    intro c hc
    simp only [nearL, List.mem_cons, List.not_mem_nil, or_false] at hc
    rcases hc with rfl | rfl | rfl
    · rfl
    · rfl
    · rfl
  exact this c h
section
variable {P : Program} {w : World} {K : PySem.W.Frag} {mg : Str → Option Value} {base : Heap}
theorem ok_lco {f : Addr} {fd : FuncData} (F : Fun K "_law_coded" "_law_coded" sLCo f fd) (T : Bi mg) (G1 : Has P w K mg base CX0 4 "_law_begins" ["rows", "far"] (spLBe K)) (G2 : Has P w K mg base CX0 4 "_law_ways" ["rows", "far"] (spLWa K)) (G3 : Has P w K mg base CX0 4 "_law_spots" ["rows"] (spLSp K)) (G4 : Has P w K mg base CX0 4 "_law_put_in" ["one", "labels", "p"] (spPutIn K)) : FnOk P w K mg base CX0 5 f fd ["rows", "far", "p"] (spLCo K) := by
  refine F.ok scLCo (fun vs H Q E h => ?_) (fun cdv A outer s H vs Q E hr h => ?_)
  · obtain ⟨L, l, xs, rs, ns, p, rfl, _⟩ := h
    rfl
  · obtain ⟨L, l, xs, rs, ns, p, rfl, hL, hrs, hS, hl, ho, q⟩ := h
    have hu := hu_of hr
    refine ⟨_, (pss_cons (ps_asg (pe_tup (pa_cons (pe_callH G1 hr (by rfl) pass0 (pa_cons (pv 0) (pa_cons (pv 1) pa_nil))) (pa_cons (pe_callH G2 hr (by rfl) pass0 (pa_cons (pv 0) (pa_cons (pv 1) pa_nil))) (pa_cons (pe_callH G3 hr (by rfl) pass0 (pa_cons (pv 0) pa_nil)) (pa_cons (pe_lst pa_nil) pa_nil))))) (pg_tup rfl (pgs_cons (pg_name (i := 3) scLCo.nd rfl (.inr rfl)) (pgs_cons (pg_name (i := 4) scLCo.nd rfl (.inl rfl)) (pgs_cons (pg_name (i := 5) scLCo.nd rfl (.inr rfl)) (pgs_cons (pg_name (i := 6) scLCo.nd rfl (.inl rfl)) pgs_nil))))))
      (pss_cons (ps_set (i := 7) scLCo.nd rfl (.inr rfl) (pe_callTy (call_dictP rfl) (by rfl) T.dict (by decide +kernel) (pa_cons (pe_lock (pe_lc (own := [("n", 11)]) (g := gName 11) (tt := tYes) (te := tTup (tCons (tVar 11) (tCons (tOp (rIxL K) (tVar 3) (tDGet (tVar 5) (tVar 11))) tNil))) rfl scLCo.nd (pi_keys (pv 5)) (blkOk_by (N := NLC) (sc := defScope sLCo) (by decide +kernel)) (fun _ _ _ _ _ => pg_name (i := 11) scLCo.nd rfl (.inl rfl)) (fun _ _ _ _ _ => pts_nil) (fun _ _ _ _ _ => (pe_tup (pa_cons (pv 11) (pa_cons (pe_ix ix_list (pv 3) (pe_dget hu (pv 5) (pv 11) (fun _ _ => rfl)) (fun _ _ => rfl)) pa_nil)))))) pa_nil)))
      (pss_cons (ps_for PassesOwn.never rfl (pi_enum (by rfl) T.enumerate (pa_cons (pv 0) pa_nil)) (pg_tup rfl (pgs_cons (pg_name (i := 8) scLCo.nd rfl (.inl rfl)) (pgs_cons (pg_name (i := 9) scLCo.nd rfl (.inl rfl)) pgs_nil)))
        (pss_cons (ps_if (pt_cmpR op_eq (pe_ix ix_tup (pv 9) pe_int (fun _ _ => rfl)) pe_str (nomark _)) (pss_one (ps_expr (pe_bm PySem.F.plainAttrs_list PySem.F.slot_list_extend PySem.F.type_list_extend mt_extend (pv 6) (pa_cons (pe_lc (own := [("one", 12)]) (g := gName 12) (tt := tYes) (te := tCall (spPutIn K) [] E00 (tCons (tVar 12) (tCons (tVar 7) (tCons (tVar 2) tNil)))) rfl scLCo.nd (pi_list (pe_ix ix_tup (pv 9) pe_int (fun _ _ => rfl))) (blkOk_by (N := NLC) (sc := defScope sLCo) (by decide +kernel)) (fun _ _ _ _ _ => pg_name (i := 12) scLCo.nd rfl (.inl rfl)) (fun _ _ _ _ _ => pts_nil) (fun _ _ _ _ _ => (pe_callH G4 hr (by rfl) pass0 (pa_cons (pv 12) (pa_cons (pv 7) (pa_cons (pv 2) pa_nil)))))) pa_nil)))) pss_nil)
        (pss_cons (ps_if (pt_cmpR op_eq (pe_ix ix_tup (pv 9) pe_int (fun _ _ => rfl)) pe_str (nomark _)) (pss_one (ps_expr (pe_bm PySem.F.plainAttrs_list PySem.F.slot_list_extend PySem.F.type_list_extend mt_extend (pv 6) (pa_cons (pe_op op_rep (pe_lst (pa_cons (pe_tup (pa_cons pe_int (pa_cons (pe_tup pa_nil) pa_nil))) pa_nil)) (pe_op op_sub (pe_ix ix_list (pv 3) (pe_op op_add (pv 8) pe_int) (fun _ _ => rfl)) (pe_ix ix_list (pv 3) (pv 8) (fun _ _ => rfl)))) pa_nil)))) pss_nil)
        (pss_one (ps_if (pt_cmpR op_eq (pe_ix ix_tup (pv 9) pe_int (fun _ _ => rfl)) pe_str (nomark _)) (pss_cons (ps_set (i := 10) scLCo.nd rfl (.inl rfl) (pe_dget hu (pe_disp (pps_cons pe_str pe_int (pps_cons pe_str pe_int (pps_cons pe_str pe_int pps_nil))) rfl rfl (by decide) (by decide)) (pe_ix ix_tup (pv 9) pe_int (fun _ _ => rfl)) (fun _ _ => rfl)))
          (pss_one (ps_if (pt_cmpR op_notIn_seq (pv 8) (pv 1) (by rfl)) (pss_one (ps_expr (pe_bm PySem.F.plainAttrs_list PySem.F.slot_list_append PySem.F.type_list_append mt_append (pv 6) (pa_cons (pe_tup (pa_cons (pe_op op_add (pv 10) (pe_op op_mul pe_int (pe_dget hu (pv 4) (pv 8) (fun _ _ => rfl)))) (pa_cons (pe_tup pa_nil) pa_nil))) pa_nil)))) (pss_cons (ps_expr (pe_bm PySem.F.plainAttrs_list PySem.F.slot_list_append PySem.F.type_list_append mt_append (pv 6) (pa_cons (pe_tup (pa_cons (pe_op op_add (pv 10) pe_int) (pa_cons (pe_tup pa_nil) pa_nil))) pa_nil)))
            (pss_one (ps_expr (pe_bm PySem.F.plainAttrs_list PySem.F.slot_list_append PySem.F.type_list_append mt_append (pv 6) (pa_cons (pe_callH G4 hr (by rfl) pass0 (pa_cons (pe_tup (pa_cons (pe_ix ix_tup (pv 9) pe_int (fun _ _ => rfl)) (pa_cons (pe_tup (pa_cons (pe_tup (pa_cons (pe_tup (pa_cons pe_str (pa_cons (pe_ix ix_tup (pv 9) pe_int (fun _ _ => rfl)) pa_nil))) (pa_cons pe_int pa_nil))) pa_nil)) pa_nil))) (pa_cons (pv 7) (pa_cons (pv 2) pa_nil)))) pa_nil)))))))) pss_nil)))))
      (pss_one (ps_ret (pv 6)))))), ?_⟩
    have okr : ∀ r ∈ rs, RowOk r := fun r hr => fine_ok ((S_ok hS).fine r hr)
    have hLR : LRows K H L xs rs := ⟨hL, rowsL_V (rowsQ_L hrs), (S_ok hS).len⟩
    refine ⟨_, rfl, _, rfl, L, l, xs, rs, ns, rfl, hLR, okr, hl, fun H1 B s1 _ hB => ?_⟩
    refine ⟨_, rfl, _, rfl, L, l, xs, rs, ns, rfl, hLR.same s1, okr, sqE_same s1 hl, fun H2 G s2 _ hG => ?_⟩
    refine ⟨_, rfl, L, xs, rs, rfl, hLR.same (s1.trans s2), fun H3 S s3 _ hSp => ⟨Nat.zero_le _, fun D hD => ⟨(by show 4 ≤ sizeLine; decide), fun t ht => ?_⟩⟩⟩
    have sD := same_new (o := .lst []) hD
    have st := same_new (o := .tup [V.ref B, V.ref G, V.ref S, V.ref D]) ht
    refine ⟨t, _, rfl, SqT.of upd_same, rfl, _, _, rfl, _, _, rfl, _, _, rfl, _, _, rfl, rfl, ?_⟩
    have s34 := sD.trans st
    have hD4 := st _ _ (upd_same (H := H3) (a := D) (o := .lst []))
    have BD : B ≠ D := ne_of_none (s3 _ _ (s2 _ _ hB)) hD
    have GD : G ≠ D := ne_of_none (s3 _ _ hG) hD
    have hB4 := s34 _ _ (s3 _ _ (s2 _ _ hB))
    have hG4 := s34 _ _ (s3 _ _ hG)
    have hS4 := s34 _ _ hSp
    have s04 := ((s1.trans s2).trans s3).trans s34
    have hDn : H D = none := none_of_f ((s1.trans s2).trans s3) hD
    clear sD st s34
    generalize upd (upd H3 D (.lst [])) t (.tup [V.ref B, V.ref G, V.ref S, V.ref D]) = H4 at hD4 hB4 hG4 hS4 s04 ⊢
    refine ⟨S, _, hS4, trivial, fun od => ⟨_, rfl, S, od, rfl, .inl ⟨_, upd_same, fun D2 hD2 => ?_⟩⟩⟩
    have hDS : D2 ≠ S := by
      intro z
      rw [z, upd_same] at hD2
      cases hD2
    have hD2n : H4 D2 = none := by
      rw [upd_ne hDS] at hD2
      exact hD2
    refine lc_it walk_keys (fun i H5 => (∀ b o, b ≠ D2 → upd H4 S (.frz od (.dK (spD rs rs.length))) b = some o → H5 b = some o) ∧ ∃ ps : List Addr, H5 D2 = some (.lst (ps.map V.ref)) ∧ Paired (fun p kv => SqT K H5 p [kV kv.1, kv.2]) ps ((lkD (mem ns) rs (spD rs rs.length)).take i))
      ⟨fun b o hb e => by rw [upd_ne hb]; exact e, [], upd_same, .nil⟩ (fun i H5 _ ⟨kp, _⟩ => kp _ _ hDS.symm upd_same) ?_ ?_
    · rintro i x H5 H5' hi ⟨kp, ps, hE5, hps⟩ ⟨rfl, k, v, hk, rfl⟩
      obtain ⟨n, j, rfl, rfl, hs, hj⟩ := spD_at hk
      have hS5 : H5' S = some (.frz od (.dK (spD rs rs.length))) := kp _ _ hDS.symm upd_same
      have hBS : B ≠ S := ne_of hB4 hS4 (by intro z; cases z)
      have hB5 : H5' B = some (.lst (offTo (mem ns) rs rs.length)) := kp _ _ (ne_of_none hB4 hD2n) (by rw [upd_ne hBS]; exact hB4)
      have hg : DGet H5' S (.str n) (some (.int ((j : Nat) : Int))) := .inl ⟨spD rs rs.length, Sum.inr n, .inr ⟨od, hS5⟩, rfl, (valV_nod (spD_nod rs _) (List.mem_of_getElem? hk)).symm⟩
      have sl := spD_len rs rs.length
      have pl : ps.length ≤ i := by
        rw [hps.length, List.length_take]
        omega
      have l20 := hS.len
      have hi2 : i < (spD rs rs.length).length := (List.getElem?_eq_some_iff.mp hk).1
      refine ⟨rfl, yes_go (iteT ⟨_, rfl, _, rfl, _, rfl, _, rfl, S, _, rfl, hg, B, _, _, _, rfl, rfl, SqL.of hB5, offTo_at (by omega), (by show 2 ≤ sizeLine; decide), fun p4 hp4 => ?_⟩)⟩
      have s7 := same_new (o := .tup [V.str n, V.int (off (mem ns) rs j)]) hp4
      have tk : (lkD (mem ns) rs (spD rs rs.length)).take (i + 1) = (lkD (mem ns) rs (spD rs rs.length)).take i ++ [(Sum.inr n, V.int (off (mem ns) rs j))] := by
        rw [List.take_add_one]
        unfold lkD
        rw [List.getElem?_map, hk]
        show _ ++ [(Sum.inr n, V.int (off (mem ns) rs ((j : Nat) : Int).toNat))] = _
        rw [Int.toNat_natCast]
      refine ⟨_, s7 _ _ hE5, ?_, fun c o hc e => ?_, ps ++ [p4], ?_, ?_⟩
      · rw [List.length_map]
        exact small1000 (by omega)
      · rw [upd_ne hc]
        exact s7 _ _ (kp c o hc e)
      · rw [upd_same, List.map_append]
        rfl
      · rw [tk]
        refine Paired.snoc (hps.mono fun p kv h => sqT_put (sqT_same s7 h) (s7 _ _ hE5) trivial) ?_
        exact sqT_put (SqT.of upd_same) (s7 _ _ hE5) trivial
    · rintro H5 ⟨kp, ps, hE5, hps⟩
      have tl : (lkD (mem ns) rs (spD rs rs.length)).take (spD rs rs.length).length = lkD (mem ns) rs (spD rs rs.length) := by
        have : (lkD (mem ns) rs (spD rs rs.length)).length = (spD rs rs.length).length := List.length_map ..
        rw [← this]
        exact List.take_length
      rw [tl] at hps
      have hS5 : H5 S = some (.frz od (.dK (spD rs rs.length))) := kp _ _ hDS.symm upd_same
      have s45 := same_unlock hS4 hD2n kp
      refine ⟨hS5, D2, ps, _, rfl, SqL.of (by rw [upd_ne hDS]; exact hE5), hps.mono fun p kv h => sqT_put h hS5 trivial, fun Lb hLb => ?_⟩
      rw [lkD_merge]
      have s6 := same_new (o := .dK (lkD (mem ns) rs (spD rs rs.length))) hLb
      have s46 := s45.trans s6
      have hL6 : upd (upd H5 S (.dK (spD rs rs.length))) Lb (.dK (lkD (mem ns) rs (spD rs rs.length))) Lb = some (.dK (lkD (mem ns) rs (spD rs rs.length))) := upd_same
      generalize upd (upd H5 S (.dK (spD rs rs.length))) Lb (.dK (lkD (mem ns) rs (spD rs rs.length))) = H6 at s46 hL6 ⊢
      have hD6 := s46 _ _ hD4
      have s06 := s04.trans s46
      have hb : Same H (del H6 D) := same_del hDn fun c o _ e => s06 _ _ e
      have hDb : (del H6 D) D = none := del_same
      have LD : Lb ≠ D := ne_of hL6 hD6 (by intro z; cases z)
      have lx : xs.length = rs.length := hrs.length
      have l20 := hS.len
      have ch : CoH K L l B G xs rs ns (del H6 D) := ⟨eachs_imp (fun _ _ => rowQ_same hb) hrs, sqL_same hb hL, sqE_same hb hl, by rw [del_ne BD]; exact s46 _ _ hB4, by rw [del_ne GD]; exact s46 _ _ hG4⟩
      refine ⟨_, rfl, L, xs, rfl, sqL_same s06 hL, ?_⟩
      refine for_it walk_enum (fun i σ H7 => ∃ k row code, σ = σC L l p B G S D Lb k row code ∧ CoS K D Lb rs ns p (del H6 D) (codL (mem ns) rs p i) (1000 * i) H7)
        ⟨none, none, none, rfl, fun c o hc e => by rw [del_ne hc] at e; exact e, hL6, [], hD6, .nil, Nat.zero_le _⟩ (fun i σ H7 _ ⟨_, _, _, _, Sx⟩ => sqL_same (Sx.sm hDb) ch.lst) ?_ ?_
      · rintro i x σ H7 H7' hi ⟨k0, row0, code, rfl, Sx⟩ ⟨TT, x', y, rfl, hT, rfl, hx', hy⟩
        cases hx'
        have sT := same_new (o := .tup [V.int ((i : Nat) : Int), y]) hT
        have hT8 : upd H7 TT (.tup [V.int ((i : Nat) : Int), y]) TT = some (.tup [V.int ((i : Nat) : Int), y]) := upd_same
        have St8 := Sx.same sT
        generalize upd H7 TT (.tup [V.int ((i : Nat) : Int), y]) = H8 at hT8 St8 ⊢
        have ch8 := ch.same (St8.sm hDb)
        obtain ⟨r, hri, hrv⟩ := eachs_get ch.rows hy
        have sb8 := St8.sm hDb
        have hi2 : i < rs.length := (List.getElem?_eq_some_iff.mp hri).1
        have gr := hS.rows r (List.mem_of_getElem? hri)
        refine ⟨TT, _, rfl, SqT.of hT8, rfl, _, _, rfl, _, _, rfl, rfl, ?_⟩
        have go : ∀ {H9 : Hp} {n : Nat} {k' row' code' : Option V}, CoS K D Lb rs ns p (del H6 D) (codL (mem ns) rs p i ++ rowL (mem ns) rs p i r) n H9 → n ≤ 1000 * (i + 1) → ∃ k row code, σC L l p B G S D Lb k' row' code' = σC L l p B G S D Lb k row code ∧ CoS K D Lb rs ns p (del H6 D) (codL (mem ns) rs p (i + 1)) (1000 * (i + 1)) H9 := by
          intro H9 n k' row' code' h hn
          obtain ⟨a1, a2, zs, a3, a4, a5⟩ := h
          refine ⟨k', row', code', rfl, a1, a2, zs, a3, ?_, by omega⟩
          rw [codL_succ hri]
          exact a4
        cases r with
        | words ws =>
          obtain ⟨a, b, zs, rfl, h2b, h3b, h4b⟩ := hrv
          have h2 := sqT_same sb8 h2b
          have h3 := sqL_same sb8 h3b
          have h4 := eachs_imp (fun _ _ => wordR_s (TupS.of sb8)) h4b
          have g1 : ws.length ≤ 255 ∧ ∀ w ∈ ws, OkM w := gr
          have lz : zs.length = ws.length := h4.length
          refine kind_yes h2 rfl (by decide +kernel) (iteT ?_)
          refine co_ext (m := 255) (ds := ws.map (lawW (adr (mem ns) rs) p)) St8 (by omega) (fun Q' mk => ?_) (fun H9 St9 => kind_no (sqT_same (St9.sm hDb) h2b) rfl (by decide +kernel) (iteF (kind_no (sqT_same (St9.sm hDb) h2b) rfl (by decide +kernel) (iteF (go St9 (by omega))))))
          refine ⟨_, rfl, a, _, _, _, rfl, rfl, h2, at_of (i := 1) rfl, b, rfl, ⟨_, h3⟩, fun Dn hDn' => ?_⟩
          refine lc_it walk_list (fun j H9 => (∀ c o, c ≠ Dn → H8 c = some o → H9 c = some o) ∧ ∃ ys, H9 Dn = some (.lst ys) ∧ PySem.W.EachIs (SumE H9) ys ((ws.take j).map (lawW (adr (mem ns) rs) p))) ⟨fun c o hc e => by rw [upd_ne hc]; exact e, [], upd_same, .nil⟩
            (fun j H9 _ ⟨kp, _⟩ => sqL_same (fun c o e => kp c o (ne_of_none e hDn') e) h3) ?_ ?_
          · rintro j x H9 H9' hj ⟨kp, ys, hD9, hys⟩ ⟨rfl, hx⟩
            obtain ⟨wd, hwd, hxw⟩ := eachs_get h4 hx
            have okd := g1.2 wd (List.mem_of_getElem? hwd)
            have s9 : Same H8 H9' := fun c o e => kp c o (ne_of_none e hDn') e
            have hj2 : j < ws.length := (List.getElem?_eq_some_iff.mp hwd).1
            refine ⟨rfl, yes_go (iteT ?_)⟩
            refine ⟨_, rfl, _, rfl, _, rfl, x, wd, Lb, _, adr (mem ns) rs, p, rfl, wordR_s (TupS.of s9) hxw, okd, s9 _ _ St8.lab, lkD_adr (mem ns) rs, fun v' Ha sa hv' => ?_⟩
            have hDa := sa _ _ hD9
            have yl : ys.length = j := by
              rw [hys.length, List.length_map, List.length_take]
              omega
            refine ⟨ys, hDa, small1000 (by omega), fun c o hc ec => ?_, ys ++ [v'], upd_same, ?_⟩
            · rw [upd_ne hc]
              exact sa _ _ (kp c o hc ec)
            · have tp : TupS Ha (upd Ha Dn (.lst (ys ++ [v']))) := TupS.put hDa (by intro xs z; cases z)
              rw [List.take_add_one, hwd, List.map_append]
              exact eachs_snoc (sumE_s (s := lawW (adr (mem ns) rs) p wd) tp hv') (eachs_imp (fun _ _ => sumE_s ((TupS.of sa).trans tp)) hys)
          · rintro H9 ⟨kp, ys, hD9, hys⟩
            rw [lz, List.take_length] at hys
            refine mk H9 Dn ys (fun c o e => kp c o (ne_of_none e hDn') e) hDn' hD9 hys ?_
            rw [hys.length, List.length_map]
            omega
        | even n =>
          obtain ⟨a, rfl, h2b⟩ := hrv
          have h2 := sqT_same sb8 h2b
          have hf1 : 1 ≤ n ∧ n ≤ 64 := (S_ok hS).fine _ (List.mem_of_getElem? hri)
          refine kind_no h2 rfl (by decide +kernel) (iteF ?_)
          refine kind_yes h2 rfl (by decide +kernel) (iteT ?_)
          refine co_ext (m := 64) (ds := List.replicate (off (mem ns) rs (i + 1) - off (mem ns) rs i).toNat (9, [])) St8 (by omega) (fun Q' mk => ?_) (fun H9 St9 => kind_no (sqT_same (St9.sm hDb) h2b) rfl (by decide +kernel) (iteF (go St9 (by omega))))
          have es := off_succ (f := mem ns) hri
          have sz0 : 0 ≤ (-(off (mem ns) rs i)) % n := Int.emod_nonneg _ (by omega)
          have sz1 : (-(off (mem ns) rs i)) % n < n := Int.emod_lt_of_pos _ (by omega)
          have ed : off (mem ns) rs (i + 1) - off (mem ns) rs i = (-(off (mem ns) rs i)) % n := by
            rw [es]
            show off (mem ns) rs i + (-(off (mem ns) rs i)) % n - off (mem ns) rs i = _
            omega
          refine ⟨Nat.zero_le _, fun p1 h1 => ⟨(by show 2 ≤ sizeLine; decide), fun p2 h2' => ⟨(by show 1 ≤ sizeLine; decide), fun p3 h3 => ?_⟩⟩⟩
          have s1 := same_new (o := .tup []) h1
          have s2 := same_new (o := .tup [V.int 9, V.ref p1]) h2'
          have s3 := same_new (o := .lst [V.ref p2]) h3
          have s13 := (s1.trans s2).trans s3
          have ho3 := SqL.of (K := K) (s13 _ _ ch8.beg)
          have at1 : atI (offTo (mem ns) rs rs.length) (((i : Nat) : Int) + 1) = some (.int (off (mem ns) rs (i + 1))) := by
            have e : ((i : Nat) : Int) + 1 = ((i + 1 : Nat) : Int) := by omega
            rw [e]
            exact offTo_at (by omega)
          refine ⟨_, rfl, _, rfl, _, _, rfl, rfl, B, _, _, _, rfl, rfl, ho3, at1, _, rfl, _, rfl, B, _, _, _, rfl, rfl, ho3, offTo_at (j := i) (by omega), _, _, rfl, rfl, ?_⟩
          refine ⟨p3, _, _, rfl, rfl, upd_same, by omega, by omega, ?_, fun p4 h4 => ?_⟩
          · rw [ed]
            show 1 * _ ≤ sizeLine
            exact Nat.le_trans (m := 1000) (by omega) (by decide)
          · have s4 := same_new (o := .lst (List.replicate (off (mem ns) rs (i + 1) - off (mem ns) rs i).toNat [V.ref p2]).flatten) h4
            have fl : (List.replicate (off (mem ns) rs (i + 1) - off (mem ns) rs i).toNat [V.ref p2]).flatten = List.replicate (off (mem ns) rs (i + 1) - off (mem ns) rs i).toNat (V.ref p2) := by simp
            rw [fl] at s4 ⊢
            have hs9 : SumE (upd (upd (upd (upd H8 p1 (.tup [])) p2 (.tup [V.int 9, V.ref p1])) p3 (.lst [V.ref p2])) p4 (.lst (List.replicate (off (mem ns) rs (i + 1) - off (mem ns) rs i).toNat (V.ref p2)))) (.ref p2) (9, []) := ⟨p2, p1, [], rfl, s4 _ _ (s3 _ _ upd_same), s4 _ _ (s3 _ _ (s2 _ _ upd_same)), .nil⟩
            refine mk _ p4 _ (s13.trans s4) (none_of_f s13 h4) upd_same (eachs_rep hs9 _) ?_
            rw [List.length_replicate]
            omega
        | label z =>
          obtain ⟨a, rfl, h2b⟩ := hrv
          have h2 := sqT_same sb8 h2b
          refine kind_no h2 rfl (by decide +kernel) (iteF ?_)
          refine kind_no h2 rfl (by decide +kernel) (iteF ?_)
          refine kind_no h2 rfl (by decide +kernel) (iteF ?_)
          refine go (n := 1000 * i) ?_ (by omega)
          show CoS K D Lb rs ns p (del H6 D) (_ ++ []) _ _
          rw [List.append_nil]
          exact St8
        | branch c n m =>
          obtain ⟨a, rfl, h2b⟩ := hrv
          have h2 := sqT_same sb8 h2b
          have hf1 : c ∈ nearL ∧ _ ∧ _ := (S_ok hS).fine _ (List.mem_of_getElem? hri)
          have hn := S_br hS i c n m hri
          refine kind_no h2 rfl (by decide +kernel) (iteF ?_)
          refine kind_no h2 rfl (by decide +kernel) (iteF ?_)
          refine kind_yes h2 rfl (by decide +kernel) (iteT ?_)
          refine fun pc hpc => ⟨upd_same, [(Sum.inr "ask", V.int 3), (Sum.inr "go", V.int 5), (Sum.inr "call", V.int 14)], rfl, (by decide), ?_⟩
          rw [upd_upd]
          have sc := same_new (o := .dK (mergeK [] [(Sum.inr "ask", V.int 3), (Sum.inr "go", V.int 5), (Sum.inr "call", V.int 14)])) hpc
          have hg : DGet (upd H8 pc (.dK (mergeK [] [(Sum.inr "ask", V.int 3), (Sum.inr "go", V.int 5), (Sum.inr "call", V.int 14)]))) pc (.str c) (some (.int (nearC c))) := by
            have := DGet.k (k := Sum.inr c) (upd_same (H := H8) (a := pc) (o := .dK (mergeK [] [(Sum.inr "ask", V.int 3), (Sum.inr "go", V.int 5), (Sum.inr "call", V.int 14)])))
            rw [codes_at hf1.1] at this
            exact this
          generalize upd H8 pc (.dK (mergeK [] [(Sum.inr "ask", V.int 3), (Sum.inr "go", V.int 5), (Sum.inr "call", V.int 14)])) = H9 at sc hg ⊢
          have St9 := St8.same sc
          have ch9 := ch8.same sc
          have h29 := sqT_same sc h2
          refine ⟨_, rfl, a, _, _, _, rfl, rfl, h29, at_of (i := 1) rfl, pc, _, rfl, hg, ?_⟩
          refine ⟨_, rfl, _, rfl, l, _, rfl, ch9.far, rfl, flat_ints ns, _, rfl, ?_⟩
          show if (!inV (.int (i : Int)) (ns.map V.int)) = true then _ else _
          rw [inV_ints]
          cases ci : decide (((i : Nat) : Int) ∈ ns) with
          | false =>
            have mi : mem ns (i : Nat) = false := ci
            have ai : (aim rs i).isSome = true := by
              cases e : aim rs i with
              | some j => rfl
              | none =>
                have hout : i ∈ outs rs := by
                  unfold outs
                  refine List.mem_filter.mpr ⟨?_, by rw [e]; rfl⟩
                  unfold brs brsTo
                  refine List.mem_filter.mpr ⟨List.mem_range.mpr hi2, ?_⟩
                  rw [isBr_at hri]
                have hin := ho i hout
                rw [decide_eq_true hin] at ci
                cases ci
            have hin : i ∈ inn rs := mem_inn.mpr ⟨hi2, ai⟩
            have hg9 : DGet H9 G (.int (i : Nat)) (some (.int (way (mem ns) rs i))) := by
              refine .inl ⟨wayD (mem ns) rs, Sum.inl (i : Int), .inl ch9.gap, rfl, ?_⟩
              unfold wayD
              rw [mapD_val, if_pos hin]
            have er : rowL (mem ns) rs p i (.branch c n m) = [(nearC c + 2048 * way (mem ns) rs i, [])] := by
              show (if mem ns (i : Nat) = true then _ else _) = _
              rw [if_neg (by rw [mi]; exact Bool.false_ne_true)]
            refine iteT (co_app (d := (nearC c + 2048 * way (mem ns) rs i, [])) St9 (by omega) (fun Q' mk => ?_) (fun Ha Sta => go (n := 1000 * i + 1) (by rw [er]; exact Sta) (by omega)))
            refine ⟨_, rfl, _, rfl, _, rfl, G, _, rfl, hg9, 2048, _, rfl, rfl, .inl ⟨by omega, by omega⟩, nearC c, _, rfl, rfl, Nat.zero_le _, fun p1 h1 => ⟨(by show 2 ≤ sizeLine; decide), fun p2 h2' => ?_⟩⟩
            have s1 := same_new (o := .tup []) h1
            have s2 := same_new (o := .tup [V.int (nearC c + 2048 * way (mem ns) rs i), V.ref p1]) h2'
            exact mk _ _ (s1.trans s2) ⟨p2, p1, [], rfl, upd_same, s2 _ _ upd_same, .nil⟩
          | true =>
            have mi : mem ns (i : Nat) = true := ci
            have er : rowL (mem ns) rs p i (.branch c n m) = [(farC c, [])] ++ [lawW (adr (mem ns) rs) p (.sum m [(nameU n, 1)])] := by
              show (if mem ns (i : Nat) = true then _ else _) = _
              rw [if_pos mi]
              rfl
            refine iteF (co_app (d := (farC c, [])) St9 (by omega) (fun Q' mk => ?_) (fun Ha Sta => ?_))
            · refine ⟨_, rfl, nearC c, 1, rfl, rfl, Nat.zero_le _, fun p1 h1 => ⟨(by show 2 ≤ sizeLine; decide), fun p2 h2' => ?_⟩⟩
              have s1 := same_new (o := .tup []) h1
              have s2 := same_new (o := .tup [V.int (nearC c + 1), V.ref p1]) h2'
              exact mk _ _ (s1.trans s2) ⟨p2, p1, [], rfl, upd_same, s2 _ _ upd_same, .nil⟩
            · have h2a := sqT_same (Sta.sm hDb) h2b
              refine co_app (d := lawW (adr (mem ns) rs) p (.sum m [(nameU n, 1)])) Sta (by omega) (fun Q' mk => ?_) (fun Hc Stc => go (n := 1000 * i + 1 + 1) (by rw [er, ← List.append_assoc]; exact Stc) (by omega))
              refine ⟨_, rfl, a, _, _, _, rfl, rfl, h2a, at_of (i := 3) rfl, _, rfl, a, _, _, _, rfl, rfl, h2a, at_of (i := 2) rfl, (by show 2 ≤ sizeLine; decide), fun p1 h1 => ⟨(by show 2 ≤ sizeLine; decide), fun p2 h2' => ⟨(by show 1 ≤ sizeLine; decide), fun p3 h3 => ⟨(by show 2 ≤ sizeLine; decide), fun p4 h4 => ?_⟩⟩⟩⟩
              have s1 := same_new (o := .tup [V.str "name", V.str n]) h1
              have s2 := same_new (o := .tup [V.ref p1, V.int 1]) h2'
              have s3 := same_new (o := .tup [V.ref p2]) h3
              have s4 := same_new (o := .tup [V.int m, V.ref p3]) h4
              have sa := ((s1.trans s2).trans s3).trans s4
              have nameS : SumT (upd (upd (upd (upd Ha p1 (.tup [V.str "name", V.str n])) p2 (.tup [V.ref p1, V.int 1])) p3 (.tup [V.ref p2])) p4 (.tup [V.int m, V.ref p3])) (.ref p4) m [(nameU n, 1)] := ⟨p4, p3, [.ref p2], rfl, upd_same, s4 _ _ upd_same, .cons ⟨p2, p1, rfl, s4 _ _ (s3 _ _ upd_same), s4 _ _ (s3 _ _ (s2 _ _ upd_same))⟩ .nil⟩
              have okM : OkM (.sum m [(nameU n, 1)]) := ⟨(by show 1 ≤ 4; decide), fun q' hq' => by
                rw [List.mem_singleton.mp hq']
                exact ⟨⟨_, _, rfl, .inr rfl, hn⟩, (by show -4 ≤ (1 : Int); decide), (by show (1 : Int) ≤ 4; decide)⟩⟩
              exact ⟨_, rfl, _, rfl, .ref p4, .sum m [(nameU n, 1)], Lb, _, adr (mem ns) rs, p, rfl, nameS, okM, sa _ _ Sta.lab, lkD_adr (mem ns) rs, fun v' H' s' hv' => mk H' v' (sa.trans s') hv'⟩
      · rintro σ H7 ⟨k0, row0, code, rfl, Sx⟩
        obtain ⟨kp, lb, zs, hD7, hz, lz⟩ := Sx
        rw [lx] at hz lz
        exact ⟨_, rfl, q H7 D zs (hb.trans fun c o e => kp c o (ne_of_none e hDb) e) hDn hD7 hz (by omega)⟩
end

/-! ### try with several clauses that name the error -/
abbrev Suite := Addr → Value → Option Addr → TS
def wAll (K : PySem.W.Frag) (out : WX) (D : Ends) : List (Value × Nat × Suite) → WX
  | [] => out
  | (c, i, ts) :: more => fun cls d σ H => ∃ yes, PySem.W.exmOne K cls c = some yes ∧
      (yes = true → ∀ e, H e = none → ts e cls d ⟨fun σ1 H1 => D.nx (σ1.set i none) H1, D.rt, fun σ1 H1 => D.bk (σ1.set i none) H1, fun σ1 H1 => D.ct (σ1.set i none) H1⟩ (σ.set i (some (.ref e))) H) ∧ (yes = false → wAll K out D more cls d σ H)
inductive Clauses (X : Cx) : List ExceptHandler → List (Value × Nat × Suite) → Prop
  | none : Clauses X [] []
  | more {x nm : Str} {c : Value} {i : Nat} {ts : Suite} {st : Stmt} {sts : List Stmt} {q1 q2 : Pos} {hds : List ExceptHandler} {l : List (Value × Nat × Suite)} (hi : X.N[i]? = some nm) (hl : X.env.kindOf nm = some .local) (hc : Names X x c)
      (hs : ∀ (e : Addr) (oe : Obj) (cls : Value) (d : Option Addr) (pn : List (Addr × Obj)), Zc cls d oe → (∃ fs, oe.data = .fields fs) → PSs (X.suite e ((e, oe) :: pn)) (st :: sts) (ts e cls d)) (rest : Clauses X hds l) :
      Clauses X (.ExceptHandler (some (.Name x q1)) (some nm) (st :: sts) q2 :: hds) ((c, i, ts) :: l)
theorem ps_tryN {X : Cx} {body : List Stmt} {h0 : ExceptHandler} {hds : List ExceptHandler} {l : List (Value × Nat × Suite)} {pos : Pos} {tb : WX → TS} {out : WX} (e1 : X.stack = X.env :: X.outer) (e2 : X.env.frame = some X.env.locals) (nd : X.N.Nodup) (tk : Takes X out)
    (hb : ∀ (W : WX) (pn : List (Addr × Obj)) (xe : Value → Shared → Prop), Takes (X.tr pn xe) W → PassesOwn (model X.prog X.w) X.A X.env xe → PSs (X.tr pn xe) body (tb W))
    (hh : Clauses X (h0 :: hds) l) : PS X (.Try body (h0 :: hds) [] [] pos) (fun D σ H => tb (wAll X.K out D l) D σ H) := by
  constructor
  intro pins s σ H D I h
  have okX := I.ok
  have fr : X.A.frames = some (X.env :: X.outer) := okX.frames.trans (by rw [e1])
  refine wpAny_Try_except (wpAny_mono ((hb (wAll X.K out D l) (X.pn ++ pins) (fun ev s₁ => wpAny (model X.prog X.w) X.A (noteFrame ev X.env) (fun _ s₂ => wpAny (model X.prog X.w) X.A (setFlight ev none) (fun _ s₃ =>
      wpAny (model X.prog X.w) X.A (handleBy ev X.env (h0 :: hds)) (SP X pins D) X.xe s₃) X.xe s₂) X.xe s₁) ?caught PassesOwn.looking).run [] s σ H D (I.toTry _) h) ?through fun _ _ z => z)
  case through =>
    intro fl s1 hsp
    cases fl with
    | next => exact let ⟨σ1, H1, J, q⟩ := hsp; wpAny_execs_nil ⟨σ1, H1, J.ofTry okX, q⟩
    | brk => exact let ⟨σ1, H1, J, q⟩ := hsp; ⟨σ1, H1, J.ofTry okX, q⟩
    | cont => exact let ⟨σ1, H1, J, q⟩ := hsp; ⟨σ1, H1, J.ofTry okX, q⟩
    | ret u => exact let ⟨v, σ1, H1, J, r, q⟩ := hsp; ⟨v, σ1, H1, J.ofTry okX, r, q⟩
  case caught =>
    intro u s1 flying
    obtain ⟨a, B, sI, pins1, σ1, H1, cls, d, rfl, J0, nb, up, sky, na, os, ag, wish⟩ := flying
    have J : Inv X pins σ1 H1 sI := J0.ofTry okX
    refine Sky.land (A := X.A) (env := X.env) (outer := X.outer) (L := X.env.locals) Zc.steady fr e2 (by rw [← e1]; exact sky) fun h3 fl3 up3 => ?_
    have J3 : Inv X pins σ1 H1 { s1 with heap := h3 } := J.landed nb fl3.1 (up.trans up3) os ag
    obtain ⟨o3, w3, g3, z3, d3⟩ := fl3.there
    have out_of : a ∉ frs (X.env :: X.outer) := fun hm => by
      obtain ⟨_, ob, g, notf⟩ := fl3.2.2.1.mem hm
      have same : o3 = ob := Option.some.inj (g3.symm.trans g)
      rw [same] at d3
      exact notf _ d3
    have nL : a ≠ X.env.locals := fun z => out_of (List.mem_filterMap.mpr ⟨X.env, .head _, e2.trans (by rw [z])⟩)
    have nF : a ∉ X.fs := fun hm => let ⟨e, he, q⟩ := List.mem_filterMap.mp hm; out_of (List.mem_filterMap.mpr ⟨e, .tail _ he, q⟩)
    have S3 := J3.suite g3 d3 na nL nF
    have each : ∀ {hs' : List ExceptHandler} {l' : List (Value × Nat × Suite)}, Clauses X hs' l' → wAll X.K out D l' cls d σ1 H1 → wpAny (model X.prog X.w) X.A (handleBy (.ref a) X.env hs') (SP X pins D) X.xe { s1 with heap := h3 } := by
      intro hs' l' C
      induction C with
      | none =>
        intro wo
        obtain ⟨k1, k2, k3, oe, vs, TB, oT, ts', he, hz, hd, ht, hr⟩ := id fl3
        have thrown : wpAny (model X.prog X.w) X.A (setFlight (.ref a) X.env.frame) (fun _ s4 => wpAny (model X.prog X.w) X.A (throw (.ref a) : Sem Flow) (SP X pins D) X.xe s4) X.xe { s1 with heap := h3 } := by
          rw [e2]
          refine HandSPX.setFlight_upZ fl3 fun h4 held up4 => wpAny_throw (tk _ _ ⟨a, B, sI, pins, σ1, H1, cls, d, rfl, J, nb, (up.trans up3).trans up4, .inr (.inr ?_), na, os, ag, wo⟩)
          rw [e1]
          exact held
        refine wpAny_handleBy_nil ?_
        unfold PySem.passOn
        refine wpAny_bind (wpAny_field he hd ht ?_)
        rw [if_neg (by simp : ¬ ((Value.ref TB == Value.none) = true))]
        first | exact wpAny_bind (wpAny_pure (wpAny_bind thrown)) | exact wpAny_bind thrown
      | @more x nm c i ts st sts q1 q2 hds2 l2 hi hl hc hs rest ih =>
        intro wo
        obtain ⟨yes, hy, on, off⟩ := wo
        have LM := PySem.W.exm_one (M := model X.prog X.w) J3.kIn (fun A Q E s k q => wpAny_typeOf_ref (k _ _ g3) (by rw [z3.1]; exact q)) hy
        have named : ∀ {Q : Value → Shared → Prop} {E : Value → Shared → Prop}, Q c { s1 with heap := h3 } → wpAny (model X.prog X.w) (X.A.mark (some (.ref a))) (eval (.Name x q1) X.env) Q E { s1 with heap := h3 } := fun {Q E} q => by
          obtain ⟨gl, dbg, m1 | ⟨m1, m2, m3⟩⟩ := hc
          · exact ld_glob (X := X.suite a ((a, o3) :: (X.pn ++ pins))) S3 gl m1 q dbg
          · exact ld_blt (X := X.suite a ((a, o3) :: (X.pn ++ pins))) S3 gl m1 m2 q m3 dbg
        refine wpAny_handleBy_cons (codeAny_handlers_test (named (LM.here ?_))) (by intro q; cases q)
        cases yes with
        | false => exact ih (off rfl)
        | true =>
          refine codeAny_handlers_suite_as (HandSPX.lands_againZ fl3 fun h4 fl4 up4 => ?_)
          obtain ⟨o4, w4, g4, z4, d4⟩ := fl4.there
          have J4 : Inv X pins σ1 H1 { s1 with heap := h4 } := J.landed nb fl4.1 ((up.trans up3).trans up4) os ag
          refine store_ok (X := X.suite a ((a, o4) :: (X.pn ++ pins))) (v := .ref a) (J4.suite g4 d4 na nL nF) nd hi (.inl hl) rfl (fun s5 S5 => ?_) (.inr hl)
          refine wpAny_mono ((hs a o4 cls d (X.pn ++ pins) z4 ⟨_, d4⟩).run [] s5 _ H1 _ S5 (on rfl a na)) (fun fl s6 hsp => ?_) fun _ _ z => z.elim
          have gone : ∀ {σ6 : L2.St} {H6 : Hp} {Q : Shared → Prop}, Inv (X.suite a ((a, o4) :: (X.pn ++ pins))) [] σ6 H6 s6 → (∀ s7, Inv X pins (σ6.set i Option.none) H6 s7 → Q s7) →
              wpAny (model X.prog X.w) X.A (do bindName X.env nm .none; unbindBehindTheSuite X.env nm q2) (fun _ s7 => Q s7) X.xe s6 := fun S6 k => gone_ok (S6.unsuite okX) nd hi hl k
          cases fl with
          | next => exact let ⟨_, _, S6, q6⟩ := hsp; gone S6 fun s7 J7 => ⟨_, _, J7, q6⟩
          | brk => exact let ⟨_, _, S6, q6⟩ := hsp; gone S6 fun s7 J7 => ⟨_, _, J7, q6⟩
          | cont => exact let ⟨_, _, S6, q6⟩ := hsp; gone S6 fun s7 J7 => ⟨_, _, J7, q6⟩
          | ret u => exact let ⟨_, _, _, S6, r6, q6⟩ := hsp; gone S6 fun s7 J7 => ⟨_, _, _, J7, r6, q6⟩
    exact each hh wish
/-! ### _law_met -/
abbrev sMet : Stmt := topS 64
theorem scMet : FnScope ["ask", "e"] ["ask"] (defScope sMet) := ⟨rfl, rfl, rfl, by decide +kernel, rfl, by decide +kernel, by decide +kernel⟩
/-- what an error of the class at C with the field f comes to -/
def CaughtAs (C : Addr) (f told : Str) (Q : VK) (cls : Value) (d : Option Addr) (H : Hp) : Prop := ∃ (dd : Addr) (v : V), cls = .ref C ∧ d = some dd ∧ H dd = some (.xd [(f, v)]) ∧ ∀ p, H p = none → Q (.ref p) (upd H p (.tup [.str told, v]))
def MetE (CN CC CT : Addr) (Q : VK) : XK := fun cls d H => CaughtAs CN "name" "name" Q cls d H ∨ CaughtAs CC "thing" "choice" Q cls d H ∨ CaughtAs CT "index" "long" Q cls d H
def TMet (CN CC CT : Addr) : (XK → Hp → VK → Prop) → Hp → VK → Prop := fun tl H Q => tl (MetE CN CC CT Q) H fun v H1 => 2 ≤ sizeLine ∧ ∀ p, H1 p = none → Q (.ref p) (upd H1 p (.tup [.str "told", v]))
theorem takes_len {X : Cx} {W W' : WX} (tk : Takes X W) (h : ∀ cls d σ H, σ.length = X.N.length → W' cls d σ H → W cls d σ H) : Takes X W' := fun u s' x => by
  obtain ⟨a, B, sI, pins, σ, H, cls, d, e, I, r1, r2, r3, r4, r5, r6, w⟩ := x
  exact tk u s' ⟨a, B, sI, pins, σ, H, cls, d, e, I, r1, r2, r3, r4, r5, r6, h cls d σ H I.len w⟩
theorem set_one {σ : L2.St} {v : V} (h : σ.length = 2) : (σ.set 1 (some v))[1]? = some (some v) := by
  rw [List.getElem?_set_self (by omega)]
/-- such an error's class -/
structure ErC (K : PySem.W.Frag) (C : Addr) (f : Str) : Prop where
  tF : PySem.W.exmOne K (.ref C) (.ref C) = some true
  xF : XfC K C
  nF : PySem.W.findIn K (.ref C) f = some none
structure Err3 (K : PySem.W.Frag) (mg : Str → Option Value) (CN CC CT : Addr) : Prop where
  mN : mg "NoName" = some (.ref CN)
  mC : mg "BadChoice" = some (.ref CC)
  mT : mg "TooLong" = some (.ref CT)
  eN : ErC K CN "name"
  eC : ErC K CC "thing"
  eT : ErC K CT "index"
  oCN : PySem.W.exmOne K (.ref CC) (.ref CN) = some false
  oTN : PySem.W.exmOne K (.ref CT) (.ref CN) = some false
  oTC : PySem.W.exmOne K (.ref CT) (.ref CC) = some false
theorem met_gives {X : Cx} {g CN CC CT : Addr} {cdg : Value} {q : Str} (M : Err3 X.K X.mg CN CC CT) :
    LamX.GivesTo X ["ask", "e"] "_law_met" (defScope sMet) g cdg (defBody sMet) "ask" q (TMet CN CC CT) := by
  intro f c' s H Q tl act hc h
  refine ⟨_, pss_one (ps_tryN (X := (cxOf CX0 X.prog X.w X.K X.mg X.base ["ask", "e"] "_law_met" (defScope sMet) g cdg X.A X.stack s H E0).nox) (out := fun _ _ _ _ => False)
      (tb := fun W D σ H => ∃ Ech : XK, (∀ cls d σ' H', σ'.length = 2 → Ech cls d H' → W cls d σ' H') ∧ σ[0]? = some (some (.ref f)) ∧ H c' = some (LamX.CodeO c' q) ∧ tl Ech H fun v H1 => 2 ≤ sizeLine ∧ ∀ p, H1 p = none → D.rt (.ref p) (upd H1 p (.tup [.str "told", v])))
      rfl rfl scMet.nd LamX.takes0 (fun W pn xe tk _ => ?_)
      (.more (i := 1) (c := .ref CN) rfl rfl ⟨rfl, by decide, .inl M.mN⟩ (fun e oe cls d pn hz hf => pss_one (ps_ret (pe_tup (pa_cons pe_str (pa_cons (by exact pe_xf M.eN.xF M.eN.nF hz hf (pv 1)) pa_nil)))))
        (.more (i := 1) (c := .ref CC) rfl rfl ⟨rfl, by decide, .inl M.mC⟩ (fun e oe cls d pn hz hf => pss_one (ps_ret (pe_tup (pa_cons pe_str (pa_cons (by exact pe_xf M.eC.xF M.eC.nF hz hf (pv 1)) pa_nil)))))
          (.more (i := 1) (c := .ref CT) rfl rfl ⟨rfl, by decide, .inl M.mT⟩ (fun e oe cls d pn hz hf => pss_one (ps_ret (pe_tup (pa_cons pe_str (pa_cons (by exact pe_xf M.eT.xF M.eT.nF hz hf (pv 1)) pa_nil))))) .none)))), ?_⟩
  · refine ⟨fun pins s' σ H' D I h' => ?_⟩
    obtain ⟨Ech, hW, h1, h2, h3⟩ := h'
    exact (pss_one (ps_ret (pe_tup (pa_cons pe_str (pa_cons (act (fun cls d _ H => Ech cls d H) pn xe Ech _ _ (takes_len tk fun cls d σ H hl h => hW cls d σ H hl h) (fun _ _ _ _ h => h)) pa_nil))))).run pins s' σ H' D I ⟨h1, h2, h3⟩
  · refine ⟨MetE CN CC CT Q, fun cls d σ' H' hl hm => ?_, rfl, hc, h⟩
    rcases hm with hm | hm | hm
    · obtain ⟨dd, v, rfl, rfl, hd, k⟩ := hm
      refine ⟨true, M.eN.tF, fun _ e he => ?_, fun z => Bool.noConfusion z⟩
      exact ⟨_, set_one hl, rfl, rfl, dd, _, v, rfl, hd, by simp [List.lookup], (by show 2 ≤ sizeLine; decide), k⟩
    · obtain ⟨dd, v, rfl, rfl, hd, k⟩ := hm
      refine ⟨false, M.oCN, fun z => Bool.noConfusion z, fun _ => ⟨true, M.eC.tF, fun _ e he => ?_, fun z => Bool.noConfusion z⟩⟩
      exact ⟨_, set_one hl, rfl, rfl, dd, _, v, rfl, hd, by simp [List.lookup], (by show 2 ≤ sizeLine; decide), k⟩
    · obtain ⟨dd, v, rfl, rfl, hd, k⟩ := hm
      refine ⟨false, M.oTN, fun z => Bool.noConfusion z, fun _ => ⟨false, M.oTC, fun z => Bool.noConfusion z, fun _ => ⟨true, M.eT.tF, fun _ e he => ?_, fun z => Bool.noConfusion z⟩⟩⟩
      exact ⟨_, set_one hl, rfl, rfl, dd, _, v, rfl, hd, by simp [List.lookup], (by show 2 ≤ sizeLine; decide), k⟩
/-- a def whose code object is known to stand at c -/
structure FunC (K : PySem.W.Frag) (x : Str) (st : Stmt) (c f : Addr) (fd : FuncData) : Prop where
  ex : ∃ (oc : Value) (od : Option Addr) (kV doc pm : Value) (an : Option Addr) (ct : Value) (osl : Array (Option Value)),
    fd = PySem.W.fnOf x x (defArgs st) (defBody st) (defScope st) .none kV doc pm an (.ref c) ct ∧ K.lookup f = some ⟨oc, od, .func fd, osl⟩ ∧ PySem.W.codeIn K (.ref c) x = true
  kp : PySem.W.keepIn K (.ref f) = true
theorem FunC.fn {K : PySem.W.Frag} {x : Str} {st : Stmt} {c f : Addr} {fd : FuncData} (F : FunC K x st c f fd) : Fun K x x st f fd := by
  obtain ⟨oc, od, kV, doc, pm, an, ct, osl, e, lk, hc⟩ := F.ex
  exact ⟨⟨oc, od, kV, doc, pm, an, _, ct, osl, e, lk, hc⟩, F.kp⟩
theorem FunC.okX {P : Program} {w : World} {K : PySem.W.Frag} {mg : Str → Option Value} {base : Heap} {x : Str} {st : Stmt} {c f : Addr} {fd : FuncData} {N ps : List Str} {k : Nat} {sp : Sp} (F : FunC K x st c f fd) (S : FnScope N ps (defScope st)) (len : ∀ vs H Q E, sp vs H Q E → vs.length = ps.length)
    (hbody : ∀ (A : Around) (outer : List Env) (s : Shared) (H : Hp) (vs : List V) (Q : VK) (E : XK), Room k (A.deeper (envOfC x (defScope st) s.heap.objs.size f (.ref c))) → sp vs H Q E →
      ∃ t, PSs (cxOf (L2.CX P w) P w K mg base N x (defScope st) f (.ref c) A outer s H E) (defBody st) t ∧ t { nx := fun _ H' => Q .non H', rt := Q } (start N vs) H) : FnOk P w K mg base (L2.CX P w) (k + 1) f fd ps sp := by
  obtain ⟨oc, od, kV, doc, pm, an, ct, osl, rfl, lk, hcd⟩ := F.ex
  exact fn_of lk hcd S len fun A outer s H vs Q E hr hsp => hbody A outer s H vs Q E hr hsp
/-- what is known of _law_met and the errors -/
structure Met (K : PySem.W.Frag) (mg : Str → Option Value) (CN CC CT : Addr) : Prop where
  ex : ∃ (g : Addr) (fd : FuncData), mg "_law_met" = some (.ref g) ∧ Fun K "_law_met" "_law_met" sMet g fd
  e3 : Err3 K mg CN CC CT
theorem pe_met {X : Cx} {T : List (Addr × Str)} {CN CC CT c P : Addr} {k : Nat} {params : Arguments} {body : Expr} {scope : Scope} {t : XK → TE} {p lpos pos : Pos} (M : Met X.K X.mg CN CC CT) (hg : Gl X "_law_met")
    (TB : LamX.TabB X.base X.mg c P) (hcode : X.env.code = .ref c) (hmT : (P, X.env.qual ++ "<lambda>") ∈ T) (hu : ∀ p ∈ T, p.1 = P → p.2 = X.env.qual ++ "<lambda>") (hr : Room (k + 2) X.A) (L : LamX.LamS X.env.scope scope) (hdef : defaultsOf params X.env = ([], []))
    (hbind : ∀ (q : Str) (cl : List (Str × Addr)) (pm cv ctv : Value), bindArgs (PySem.W.kla_fn "<lambda>" q params body scope cl pm cv ctv) ⟨[], []⟩ = pure [])
    (hbody : ∀ (A : Around) (outer : List Env) (s : Shared) (H : Hp) (E : XK) (f c' : Addr), Room k (A.deeper (LamX.lamEnv X scope s.heap.objs.size f c')) → PE (LamX.lamCx X A outer s H E scope f c') body (t E)) :
    PE X (.Call (.Name "_law_met" p) [.Lambda params body scope lpos] [] pos) (LamX.tLam T (TMet CN CC CT) t) := by
  obtain ⟨g, fd, hm, F⟩ := M.ex
  have hb := F.binds (ps := ["ask"]) fun _ _ _ _ _ _ us hl => match us, hl with | [_], _ => rfl
  obtain ⟨oc, od, kV, doc, pm, an, cdv, ct, osl, rfl, lk, hcd⟩ := F.ex
  exact LamX.pe_lamcall hg hm F.kp lk hcd hb scMet rfl (.inl rfl) (met_gives M.e3) TB hcode hmT hu hr L hdef hbind hbody
theorem sqL_ext {K : PySem.W.Frag} {H H' : Hp} {a : Addr} {xs : List V} (e : LamX.ExtN H H') (h : SqL K H a xs) : SqL K H' a xs :=
  h.imp (fun h => h.imp (fun h => e _ _ h (by intro x z; cases z)) (fun ⟨o, h⟩ => ⟨o, e _ _ h (by intro x z; cases z)⟩)) id
theorem sqT_ext {K : PySem.W.Frag} {H H' : Hp} {a : Addr} {xs : List V} (e : LamX.ExtN H H') (h : SqT K H a xs) : SqT K H' a xs :=
  h.imp (fun h => h.imp (fun h => e _ _ h (by intro x z; cases z)) (fun ⟨o, h⟩ => ⟨o, e _ _ h (by intro x z; cases z)⟩)) id

/-! ### words as they are compared -/
def SmW (s : Int × Mul) : Prop := s.2.length ≤ 8 ∧ ∀ q ∈ s.2, q.1.length = 2
theorem lawW_sm {g : Str → Option Int} {p : Str} {w : WordM} (h : OkM w) : SmW (lawW g p w) := by
  cases w with
  | num k => exact ⟨Nat.zero_le _, fun q hq => by cases hq⟩
  | sum n l =>
    have pn : ∀ u ∈ (putAll g p n l).2.map (·.1), PnU u := putAll_pn (fun u hu => by
      obtain ⟨q, hq, rfl⟩ := List.mem_map.mp hu
      exact okU_pn (h.2 q hq).1) (fun u hu => by cases hu)
    have e : lawW g p (.sum n l) = ((putAll g p n l).1, form (putAll g p n l).2) := Prod.ext rfl (partsT_form pn)
    rw [e]
    have h1 := h.1
    have al : (putAll g p n l).2.length ≤ 0 + l.length := putAll_len l (n, [])
    have fl := form_len (putAll g p n l).2
    refine ⟨by show (form _).length ≤ 8; omega, fun q hq => ?_⟩
    obtain ⟨k, z, e, _⟩ := pn q.1 (form_keys (List.mem_map_of_mem hq)).1
    rw [e]
    rfl
theorem codL_sm {f : Int → Bool} {rs : List Row} {p : Str} (h : DraftS rs) : ∀ i, ∀ s ∈ codL f rs p i, SmW s
  | 0, s, hs => by cases hs
  | i + 1, s, hs => by
    rcases List.mem_append.mp hs with hs | hs
    · exact codL_sm h i s hs
    · cases e : rs[i]? with
      | none => rw [e] at hs; cases hs
      | some r =>
        rw [e] at hs
        have hs : s ∈ rowL f rs p i r := hs
        have g := h.rows r (List.mem_of_getElem? e)
        cases r with
        | words ws =>
          obtain ⟨w, hw, rfl⟩ := List.mem_map.mp hs
          exact lawW_sm (g.2 w hw)
        | even n =>
          rw [(List.mem_replicate.mp hs).2]
          exact ⟨Nat.zero_le _, fun q hq => by cases hq⟩
        | label z => cases hs
        | branch c n m =>
          have hn := S_br h i c n m e
          have hs : s ∈ (if f (i : Nat) = true then [(farC c, []), lawW (adr f rs) p (.sum m [(nameU n, 1)])] else [(nearC c + 2048 * way f rs i, [])]) := hs
          split at hs
          · rcases List.mem_cons.mp hs with e | hs
            · rw [e]
              exact ⟨Nat.zero_le _, fun q hq => by cases hq⟩
            · rw [List.mem_singleton.mp hs]
              refine lawW_sm ⟨(by show 1 ≤ 4; decide), fun q' hq' => ?_⟩
              rw [List.mem_singleton.mp hq']
              exact ⟨⟨_, _, rfl, .inr rfl, hn⟩, (by show -4 ≤ (1 : Int); decide), (by show (1 : Int) ≤ 4; decide)⟩
          · rw [List.mem_singleton.mp hs]
            exact ⟨Nat.zero_le _, fun q hq => by cases hq⟩
theorem sm_two {K : PySem.W.Frag} {H : Hp} {p p' : Addr} {v1 v2 u1 u2 : V} {n : Nat} (h1 : SqT K H p [v1, v2]) (h2 : SqT K H p' [u1, u2]) (f1 : ∀ H', Same H H' → SmRel K n H' v1 u1) (f2 : ∀ H', Same H H' → SmRel K n H' v2 u2) : SmRel K (n + 1) H (.ref p) (.ref p') :=
  ⟨_, .tup h1 h2 rfl (by show 2 ≤ 200000; decide) fun H1 e1 i x y hx hy => by
    match i with
    | 0 =>
      cases hx
      cases hy
      exact f1 H1 e1
    | 1 =>
      cases hx
      cases hy
      exact f2 H1 e1
    | i + 2 => cases hx⟩
theorem sm_int {K : PySem.W.Frag} {H : Hp} {i : Int} {n : Nat} : SmRel K (n + 1) H (.int i) (.int i) := ⟨_, .int i⟩
theorem sm_str {K : PySem.W.Frag} {H : Hp} {z : Str} {n : Nat} : SmRel K (n + 1) H (.str z) (.str z) := ⟨_, .str z⟩
theorem sm_kV {K : PySem.W.Frag} {H : Hp} {n : Nat} : ∀ k : Key, SmRel K (n + 1) H (kV k) (kV k)
  | .inl _ => sm_int
  | .inr _ => sm_str
theorem sm_word {K : PySem.W.Frag} {H : Hp} {v u : V} {s : Int × Mul} (h : SumE H v s) (h' : SumE H u s) (w : SmW s) : SmRel K 5 H v u := by
  obtain ⟨a, b, xs, rfl, ha, hb, hx⟩ := h
  obtain ⟨a', b', xs', rfl, ha', hb', hx'⟩ := h'
  refine sm_two (SqT.of ha) (SqT.of ha') (fun H1 e1 => sm_int) fun H1 e1 => ?_
  have l1 := hx.length
  have l2 := hx'.length
  have w1 := w.1
  refine ⟨_, .tup (SqT.of (e1 _ _ hb)) (SqT.of (e1 _ _ hb')) (by omega) (by omega) fun H2 e2 i x y h1 h2 => ?_⟩
  obtain ⟨q, hq, c, e, rfl, hc, he⟩ := eachs_get hx h1
  obtain ⟨q', hq', c', e', rfl, hc', he'⟩ := eachs_get hx' h2
  obtain rfl : q = q' := Option.some.inj (hq.symm.trans hq')
  have e12 := e1.trans e2
  have w2 := w.2 q (List.mem_of_getElem? hq)
  refine sm_two (SqT.of (e12 _ _ hc)) (SqT.of (e12 _ _ hc')) (fun H3 e3 => ?_) fun H3 e3 => sm_int
  refine ⟨_, .tup (SqT.of (e3 _ _ (e12 _ _ he))) (SqT.of (e3 _ _ (e12 _ _ he'))) rfl (by rw [List.length_map, w2]; decide) fun H4 e4 i x y h3 h4 => ?_⟩
  obtain rfl : x = y := Option.some.inj (h3.symm.trans h4)
  rw [List.getElem?_map] at h3
  obtain ⟨k, _, rfl⟩ := Option.map_eq_some_iff.mp h3
  exact sm_kV k
theorem sm_words {K : PySem.W.Frag} {H : Hp} {p p' : Addr} {xs ys : List V} {cs : List (Int × Mul)} (h : H p = some (.lst xs)) (h' : H p' = some (.lst ys)) (e : PySem.W.EachIs (SumE H) xs cs) (e' : PySem.W.EachIs (SumE H) ys cs) (w : ∀ s ∈ cs, SmW s) (l : xs.length ≤ 200000) : SmRel K 6 H (.ref p) (.ref p') := by
  have l1 := e.length
  have l2 := e'.length
  refine ⟨_, .lst (SqL.of h) (SqL.of h') (by omega) l fun H1 e1 i x y h1 h2 => ?_⟩
  obtain ⟨q, hq, hx⟩ := eachs_get e h1
  obtain ⟨q', hq', hy⟩ := eachs_get e' h2
  obtain rfl : q = q' := Option.some.inj (hq.symm.trans hq')
  exact sm_word (sumE_s (TupS.of e1) hx) (sumE_s (TupS.of e1) hy) (w q (List.mem_of_getElem? hq))
/-! ### choices -/
theorem ch_sub {rs : List Row} {ks : List Nat} (h : ks.Sublist (brs rs)) (o : ∀ k ∈ outs rs, k ∈ ks) (l : rs.length ≤ 900) : ChOk rs (zs ks) := by
  refine ⟨fun n hn => ?_, ?_, fun k hk => mem_zs.mpr ⟨k, o k hk, rfl⟩, ?_⟩
  · obtain ⟨k, hk, e⟩ := mem_zs.mp hn
    exact List.mem_map.mpr ⟨k, h.subset hk, e⟩
  · unfold zs
    rw [List.pairwise_map]
    unfold brs brsTo at h
    exact (List.Pairwise.sublist (List.Sublist.trans h (List.filter_sublist ..)) List.pairwise_lt_range).imp fun h => by omega
  · rw [zs_len]
    have h1 := h.length_le
    have h2 := brs_len rs
    omega
theorem ch_outs {rs : List Row} (l : rs.length ≤ 900) : ChOk rs (zs (outs rs)) := ch_sub (List.filter_sublist ..) (fun _ h => h) l
theorem outs_brs {rs : List Row} {k : Nat} (h : k ∈ outs rs) : k ∈ brs rs := (List.mem_filter.mp h).1
theorem inn_brs {rs : List Row} {k : Nat} (h : k ∈ inn rs) : k ∈ brs rs := by
  rw [← brs_inn] at h
  exact (List.mem_filter.mp h).1
theorem ch_brs {rs : List Row} (l : rs.length ≤ 900) : ChOk rs (zs (brs rs)) := ch_sub (List.Sublist.refl _) (fun _ h => outs_brs h) l
theorem ch_grown {rs : List Row} {g : List Int} (h : Grown rs g) (l : rs.length ≤ 400) : ChOk rs g := by
  have gl := grown_len h
  obtain ⟨n, pm, srt, _⟩ := h
  have nod : (outs rs ++ fars rs n).Nodup := List.nodup_append.mpr ⟨List.Nodup.sublist (List.filter_sublist ..) (brs_nodup rs), fars_nodup rs n, fun a ha b hb e => by
    rw [e] at ha
    exact inn_not_outs (fars_inn rs n b hb) ha⟩
  have nodz : (zs (outs rs ++ fars rs n)).Nodup := by
    unfold zs
    exact List.Pairwise.map _ (fun a b h e => h (by omega)) nod
  have nodg : g.Nodup := pm.nodup_iff.mpr nodz
  refine ⟨fun m hm => ?_, ?_, fun k hk => pm.mem_iff.mpr (mem_zs.mpr ⟨k, List.mem_append_left _ hk, rfl⟩), by omega⟩
  · obtain ⟨k, hk, e⟩ := mem_zs.mp (pm.mem_iff.mp hm)
    refine List.mem_map.mpr ⟨k, ?_, e⟩
    rcases List.mem_append.mp hk with hk | hk
    · exact outs_brs hk
    · exact inn_brs (fars_inn rs n k hk)
  · exact (List.pairwise_and_iff.mpr ⟨srt, nodg⟩).imp fun ⟨h1, h2⟩ => by omega

/-! ### the law -/
abbrev sLaw : Stmt := topS 70
abbrev NL : List Str := ["script", "draws", "rows", "outs", "branches", "some", "due", "found", "bad", "far", "made", "odd", "p", "k", "draw"]
theorem scLaw : FnScope NL ["script"] (defScope sLaw) := ⟨rfl, rfl, rfl, by decide +kernel, rfl, by decide +kernel, by decide +kernel⟩
abbrev lb (i : Nat) : Stmt := (defBody sLaw).getD i (.Pass ⟨0, 0, 0, 0⟩)
abbrev qLaw : Str := (envOfC "law" (defScope sLaw) 0 0 .none).qual ++ "<lambda>"
/-- what the law calls -/
structure TL (P : Program) (w : World) (K : PySem.W.Frag) (mg : Str → Option Value) (base : Heap) (C CN CC CT : Addr) : Prop where
  bi : Bi mg
  cell : Has P w K mg base CX0 1 "_law_cell" ["script", "k"] (spLCell K)
  row : Has P w K mg base CX0 1 "_law_row" ["cell", "sizes"] (spLRow K)
  draft : Has P w K mg base CX0 2 "_law_draft" ["cell", "most", "is_even"] (spLDraft K)
  ws : Has P w K mg base CX0 2 "_law_with_sums" ["rows", "draws"] (spWS K)
  outs : Has P w K mg base CX0 2 "_law_outs" ["rows"] (spLOu K)
  brs : Has P w K mg base CX0 1 "_law_branches" ["rows"] (spLBr K)
  grown : Has P w K mg base CX0 4 "_law_grown" ["rows"] (spLGr K)
  long : Has P w K mg base CX0 3 "_law_long" ["rows", "far"] (spLLo K)
  coded : Has P w K mg base CX0 5 "_law_coded" ["rows", "far", "p"] (spLCo K)
  same : ∀ n, n ≤ 7 → Has P w K mg base CX0 8 "_law_same" ["found", "due"] (spSame K n)
  met : Met K mg CN CC CT
  drc : DrC K C
  dr : mg "Draft" = some (.ref C)
  mkx : ∃ (f : Addr) (fd : FuncData), _root_.L2.Mk K C f ∧ Binds K fd ["self", "rows"] [] ∧ FnOk P w K mg base CX0 8 f fd ["self", "rows"] (spInit K C)
  cw : HasM P w K mg base (L2.CX P w) 11 C "coded_words" ["self", "p", "choice"] (spCW K C CN CC CT)
abbrev XL (P : Program) (w : World) (K : PySem.W.Frag) (mg : Str → Option Value) (base : Heap) (f c : Addr) (A : Around) (outer : List Env) (s : Shared) (H : Hp) (E : XK) : Cx := cxOf (L2.CX P w) P w K mg base NL "law" (defScope sLaw) f (.ref c) A outer s H E
theorem pe_makeH {X : Cx} {C : Addr} {k : Nat} {ps : List Str} {sp : Sp} {x : Str} {p pos : Pos} {e : Expr} {es : List Expr} {t : TA} (M : ∃ (f : Addr) (fd : FuncData), _root_.L2.Mk X.K C f ∧ Binds X.K fd ps [] ∧ FnOk X.prog X.w X.K X.mg X.base CX0 k f fd ps sp) (hr : Room (k + 1) X.A) (hg : Gl X x) (hm : X.mg x = some (.ref C)) (ha : PA X (e :: es) t)
    (hdb : (x == ("__debug__" : Str)) = false := by decide) (he : starEach (e :: es) X.env = (false, eval e X.env) :: starEach es X.env := by rfl) (hpl : (backTo pos (starEach es X.env)).any (·.1) = false := by rfl) : PE X (.Call (.Name x p) (e :: es) [] pos) (tMake C sp [] E0 t) := by
  obtain ⟨f, fd, a, b, c⟩ := M
  exact pe_make a c hr hg hm b .nil pass0 ha hdb he hpl
abbrev sg (sc : Addr) (o1 o2 o3 o4 o5 o6 o7 o8 o9 o10 o11 o12 : Option V) : L2.St := [some (.ref sc), o1, o2, o3, o4, o5, o6, o7, o8, o9, o10, o11, o12, none, none]
def szL : List Int := List.replicate 16 8 ++ List.replicate 12 2 ++ [6, 6, 3]
theorem szL_ok : SizesOk szL := ⟨by decide, by decide⟩
theorem drawn_at {sz out : List Int} (h : Drawn sz out) {i : Nat} {z : Int} (hz : sz[i]? = some z) : ∃ d : Int, (out.map V.int)[i]? = some (.int d) ∧ 0 ≤ d ∧ d < z := by
  obtain ⟨d, h1, h2, h3⟩ := h.2 i z hz
  exact ⟨d, by rw [List.getElem?_map, h1]; rfl, h2, h3⟩
/-- what stands while the law runs -/
structure Lw (K : PySem.W.Frag) (C : Addr) (T' : List (Addr × Str)) (out : List Int) (rs : List Row) (d L lo lb x : Addr) (H : Hp) : Prop where
  tabs : LamX.Tabs T' H
  draws : H d = some (.lst (out.map V.int))
  rows : ∃ ys, H L = some (.lst ys) ∧ PySem.W.EachIs (RowQ K H) ys rs
  outs : H lo = some (.lst (nats (outs rs)))
  brs : H lb = some (.lst (nats (brs rs)))
  dr : DraftV K H C x rs
structure Lf (out : List Int) (rs : List Row) : Prop where
  dr : Drawn szL out
  S : DraftS rs
  len : rs.length ≤ 13
theorem kp_ext {K : PySem.W.Frag} {H H' : Hp} (e : LamX.ExtN H H') : KpT K H H' := ⟨fun a xs h => sqT_ext e h, fun a xs h => e _ _ h (by intro ps z; cases z)⟩
theorem draft_ext {K : PySem.W.Frag} {H H' : Hp} {C x : Addr} {rs : List Row} (e : LamX.ExtN H H') (h : DraftV K H C x rs) : DraftV K H' C x rs := by
  obtain ⟨ok, a1, a2, a3, a4, a5, a6, h⟩ := h
  exact ⟨ok, a1, a2, a3, a4, a5, a6, ⟨e _ _ h.ins (by intro x z; cases z), sqT_ext e h.parts, rowsP_of (kp_ext e) h.rows, sqT_ext e h.forks, e _ _ h.aims (by intro x z; cases z), sqT_ext e h.outs⟩⟩
theorem rowQ_ext {K : PySem.W.Frag} {H H' : Hp} {v : V} {r : Row} (e : LamX.ExtN H H') (h : RowQ K H v r) : RowQ K H' v r := by
  cases r with
  | words ws =>
    obtain ⟨a, b, xs, h1, h2, h3, h4⟩ := h
    exact ⟨a, b, xs, h1, sqT_ext e h2, sqL_ext e h3, eachs_imp (fun _ _ => wordR_s (kp_ext (K := K) e).tu) h4⟩
  | label s =>
    obtain ⟨a, h1, h2⟩ := h
    exact ⟨a, h1, sqT_ext e h2⟩
  | even n =>
    obtain ⟨a, h1, h2⟩ := h
    exact ⟨a, h1, sqT_ext e h2⟩
  | branch c n m =>
    obtain ⟨a, h1, h2⟩ := h
    exact ⟨a, h1, sqT_ext e h2⟩
theorem Lw.ext {K : PySem.W.Frag} {C : Addr} {T' : List (Addr × Str)} {out : List Int} {rs : List Row} {d L lo lb x : Addr} {H H' : Hp} (h : Lw K C T' out rs d L lo lb x H) (e : LamX.ExtN H H') (t : LamX.Tabs T' H') : Lw K C T' out rs d L lo lb x H' := by
  obtain ⟨ys, h1, h2⟩ := h.rows
  exact ⟨t, e _ _ h.draws (by intro x z; cases z), ⟨ys, e _ _ h1 (by intro x z; cases z), eachs_imp (fun _ _ => rowQ_ext e) h2⟩, e _ _ h.outs (by intro x z; cases z), e _ _ h.brs (by intro x z; cases z), draft_ext e h.dr⟩
theorem Lw.same {K : PySem.W.Frag} {C : Addr} {T' : List (Addr × Str)} {out : List Int} {rs : List Row} {d L lo lb x : Addr} {H H' : Hp} (h : Lw K C T' out rs d L lo lb x H) (e : Same H H') : Lw K C T' out rs d L lo lb x H' := h.ext (LamX.ExtN.of e) (h.tabs.ext e)
section
variable {P : Program} {w : World} {K : PySem.W.Frag} {mg : Str → Option Value} {base : Heap} {C CN CC CT f c tb : Addr} {T' : List (Addr × Str)} {A : Around} {outer : List Env} {s : Shared} {H0 : Hp} {E : XK}
theorem st0 (L : TL P w K mg base C CN CC CT) (hr : Room 15 (XL P w K mg base f c A outer s H0 E).A) : ∃ t, PS (XL P w K mg base f c A outer s H0 E) (lb 0) t ∧
    ∀ (D : Ends) (H : Hp) (sc : Addr) (ns : List Int) (o1 o2 o3 o4 o5 o6 o7 o8 o9 o10 o11 o12 : Option V), SqL K H sc (ns.map V.int) →
      (∀ H' d out, Same H H' → H' d = some (.lst (out.map V.int)) → Drawn szL out → D.nx (sg sc (some (.ref d)) o2 o3 o4 o5 o6 o7 o8 o9 o10 o11 o12) H') →
      t D (sg sc o1 o2 o3 o4 o5 o6 o7 o8 o9 o10 o11 o12) H := by
  refine ⟨_, ps_set (i := 1) scLaw.nd rfl (.inl rfl) (pe_callH L.row (hr.mono (by decide)) (by rfl) pass0 (pa_cons (pe_callH L.cell (hr.mono (by decide)) (by rfl) pass0 (pa_cons (pv 0) (pa_cons pe_int pa_nil))) (pa_cons (pe_op op_cat (pe_op op_cat (pe_op op_rep (pe_lst (pa_cons pe_int pa_nil)) pe_int) (pe_op op_rep (pe_lst (pa_cons pe_int pa_nil)) pe_int)) (pe_lst (pa_cons pe_int (pa_cons pe_int (pa_cons pe_int pa_nil))))) pa_nil))), ?_⟩
  intro D H sc ns o1 o2 o3 o4 o5 o6 o7 o8 o9 o10 o11 o12 hs q
  refine ⟨_, rfl, sc, ns, 1, rfl, hs, fun n => ⟨(by show 1 ≤ sizeLine; decide), fun p1 h1 => ⟨p1, 16, _, rfl, rfl, upd_same, by decide, by decide, (by show 1 * 16 ≤ sizeLine; decide), fun p2 h2 => ⟨(by show 1 ≤ sizeLine; decide), fun p3 h3 => ⟨p3, 12, _, rfl, rfl, upd_same, by decide, by decide, (by show 1 * 12 ≤ sizeLine; decide), fun p4 h4 => ?_⟩⟩⟩⟩⟩
  have s1 := same_new (o := .lst [V.int 8]) h1
  have s2 := same_new (o := .lst (List.replicate 16 [V.int 8]).flatten) h2
  have s3 := same_new (o := .lst [V.int 2]) h3
  have s4 := same_new (o := .lst (List.replicate 12 [V.int 2]).flatten) h4
  have e2 := (s3.trans s4) _ _ (upd_same (H := upd H p1 (.lst [V.int 8])) (a := p2) (o := .lst (List.replicate 16 [V.int 8]).flatten))
  refine ⟨p2, p4, _, _, rfl, rfl, e2, upd_same, (by show 28 ≤ sizeLine; decide), fun p5 h5 => ⟨(by show 3 ≤ sizeLine; decide), fun p6 h6 => ?_⟩⟩
  have s5 := same_new (o := .lst ((List.replicate 16 [V.int 8]).flatten ++ (List.replicate 12 [V.int 2]).flatten)) h5
  have s6 := same_new (o := .lst [V.int 6, V.int 6, V.int 3]) h6
  refine ⟨p5, p6, _, _, rfl, rfl, s6 _ _ upd_same, upd_same, (by show 31 ≤ sizeLine; decide), fun p7 h7 => ?_⟩
  have s7 := same_new (o := .lst (szL.map V.int)) h7
  refine ⟨n, p7, szL, rfl, SqL.of (by rw [upd_same]; rfl), szL_ok, fun H' d out s8 _ hd dr => q H' d out ((((((s1.trans s2).trans s3).trans s4).trans s5).trans s6).trans (s7.trans s8)) hd dr⟩
theorem st1 (L : TL P w K mg base C CN CC CT) (hr : Room 15 (XL P w K mg base f c A outer s H0 E).A) : ∃ t, PS (XL P w K mg base f c A outer s H0 E) (lb 1) t ∧
    ∀ (D : Ends) (H : Hp) (sc d : Addr) (ns out : List Int) (o2 o3 o4 o5 o6 o7 o8 o9 o10 o11 o12 : Option V), SqL K H sc (ns.map V.int) → H d = some (.lst (out.map V.int)) → Drawn szL out →
      (∀ H' l ys rs, Same H H' → H' l = some (.lst ys) → PySem.W.EachIs (RowQ K H') ys rs → DraftS rs → rs.length ≤ 13 → D.nx (sg sc (some (.ref d)) (some (.ref l)) o3 o4 o5 o6 o7 o8 o9 o10 o11 o12) H') →
      t D (sg sc (some (.ref d)) o2 o3 o4 o5 o6 o7 o8 o9 o10 o11 o12) H := by
  refine ⟨_, ps_set (i := 2) scLaw.nd rfl (.inl rfl) (pe_callH L.ws (hr.mono (by decide)) (by rfl) pass0 (pa_cons (pe_callH L.draft (hr.mono (by decide)) (by rfl) pass0 (pa_cons (pe_callH L.cell (hr.mono (by decide)) (by rfl) pass0 (pa_cons (pv 0) (pa_cons pe_int pa_nil))) (pa_cons pe_int (pa_cons pe_bl pa_nil)))) (pa_cons (pv 1) pa_nil))), ?_⟩
  intro D H sc d ns out o2 o3 o4 o5 o6 o7 o8 o9 o10 o11 o12 hs hd dr q
  refine ⟨_, rfl, sc, ns, 0, rfl, hs, fun n => ⟨n, true, rfl, fun H1 p xs rcs s1 _ h1 h2 h3 h4 h5 h6 => ⟨_, rfl, p, d, xs, rcs, out, rfl, SqL.of h1, h2, h3, SqL.of (s1 _ _ hd), fun i hi => ?_, fun H2 p2 ys rs' s2 _ g1 g2 g3 g4 g5 => q H2 p2 ys rs' (s1.trans s2) g1 g2 g3 (by omega)⟩⟩⟩
  have e : szL[i]? = some 8 := by
    have : ∀ j, j < 13 → szL[j]? = some 8 := by decide
    exact this i (by omega)
  exact dr.2 i 8 e
theorem st2 (L : TL P w K mg base C CN CC CT) (hr : Room 15 (XL P w K mg base f c A outer s H0 E).A) : ∃ t, PS (XL P w K mg base f c A outer s H0 E) (lb 2) t ∧
    ∀ (D : Ends) (H : Hp) (sc d l : Addr) (out : List Int) (ys : List V) (rs : List Row) (o3 o4 o5 o6 o7 o8 o9 o10 o11 o12 : Option V), LamX.Tabs T' H → H d = some (.lst (out.map V.int)) → H l = some (.lst ys) → PySem.W.EachIs (RowQ K H) ys rs → DraftS rs →
      (∀ H' lo lb x, LamX.ExtN H H' → Lw K C T' out rs d l lo lb x H' → D.nx (sg sc (some (.ref d)) (some (.ref l)) (some (.ref lo)) (some (.ref lb)) o5 o6 o7 o8 o9 (some (.ref x)) o11 o12) H') →
      t D (sg sc (some (.ref d)) (some (.ref l)) o3 o4 o5 o6 o7 o8 o9 o10 o11 o12) H := by
  refine ⟨_, (ps_asg (pe_tup (pa_cons (pe_makeH L.mkx (hr.mono (by decide)) (by rfl) L.dr (pa_cons (pv 2) pa_nil)) (pa_cons (pe_callH L.outs (hr.mono (by decide)) (by rfl) pass0 (pa_cons (pv 2) pa_nil)) (pa_cons (pe_callH L.brs (hr.mono (by decide)) (by rfl) pass0 (pa_cons (pv 2) pa_nil)) pa_nil)))) (pg_tup rfl (pgs_cons (pg_name (i := 10) scLaw.nd rfl (.inr rfl)) (pgs_cons (pg_name (i := 3) scLaw.nd rfl (.inr rfl)) (pgs_cons (pg_name (i := 4) scLaw.nd rfl (.inl rfl)) pgs_nil))))), ?_⟩
  intro D H sc d l out ys rs o3 o4 o5 o6 o7 o8 o9 o10 o11 o12 hT hd hl hrs hS q
  have l20 := hS.len
  refine ⟨_, rfl, fun x dx hx hdx hne => ?_⟩
  have s1 := (same_new (o := .own x) hdx).trans (same_new (o := .ins C dx []) (H := upd H dx (.own x)) (by rw [upd_ne hne.symm]; exact hx))
  refine ⟨x, l, dx, ys, rs, rfl, upd_same, SqL.of (s1 _ _ hl), rowsL_same s1 (rowsQ_L hrs), S_ok hS, fun H2 kp hdr => ⟨rfl, ?_⟩⟩
  have s2 : Same H H2 := fun b o e => kp b o (ne_of_none e hx) (s1 _ _ e)
  have hR2 : LRows K H2 l ys rs := ⟨SqL.of (s2 _ _ hl), rowsL_V (rowsL_same s2 (rowsQ_L hrs)), by omega⟩
  refine ⟨_, rfl, l, ys, rs, rfl, hR2, fun H3 lo s3 _ hlo => ⟨_, rfl, l, ys, rs, rfl, hR2.same s3, fun H4 lb s4 _ hlb => ⟨(by show 3 ≤ sizeLine; decide), fun t ht => ?_⟩⟩⟩
  have st := same_new (o := .tup [V.ref x, V.ref lo, V.ref lb]) ht
  have s24 := (s3.trans s4).trans st
  have s04 := s2.trans s24
  refine ⟨t, _, rfl, SqT.of upd_same, rfl, _, _, rfl, _, _, rfl, _, _, rfl, rfl, q _ lo lb x (LamX.ExtN.of s04) ⟨hT.ext s04, s04 _ _ hd, ⟨ys, s04 _ _ hl, eachs_imp (fun _ _ => rowQ_same s04) hrs⟩, (s4.trans st) _ _ hlo, st _ _ hlb, draftV_same s24 hdr⟩⟩
def pL : List Str := ["m", "code", "la"]
theorem pL_nm : ∀ z ∈ pL, z ∈ nmS := by decide +kernel
theorem st3 (L : TL P w K mg base C CN CC CT) (hr : Room 15 (XL P w K mg base f c A outer s H0 E).A) : ∃ t, PS (XL P w K mg base f c A outer s H0 E) (lb 3) t ∧
    ∀ (D : Ends) (H : Hp) (sc d : Addr) (out : List Int) (o2 o3 o4 o5 o6 o7 o8 o9 o10 o11 o12 : Option V), H d = some (.lst (out.map V.int)) → Drawn szL out →
      (∀ H' p, Same H H' → p ∈ nmS → D.nx (sg sc (some (.ref d)) o2 o3 o4 o5 o6 o7 o8 o9 o10 o11 (some (.str p))) H') →
      t D (sg sc (some (.ref d)) o2 o3 o4 o5 o6 o7 o8 o9 o10 o11 o12) H := by
  refine ⟨_, (ps_set (i := 12) scLaw.nd rfl (.inr rfl) (pe_ix ix_list (pe_lst (pa_cons pe_str (pa_cons pe_str (pa_cons pe_str pa_nil)))) (pe_ix ix_list (pv 1) pe_int (fun _ _ => rfl)) (fun _ _ => rfl))), ?_⟩
  intro D H sc d out o2 o3 o4 o5 o6 o7 o8 o9 o10 o11 o12 hd dr q
  obtain ⟨k, hk, k0, k1⟩ := drawn_at dr (i := 30) (z := 3) rfl
  obtain ⟨j, rfl⟩ := Int.eq_ofNat_of_zero_le k0
  have hj : j < pL.length := by show j < 3; omega
  obtain ⟨z, hz⟩ : ∃ z, pL[j]? = some z := ⟨_, List.getElem?_eq_getElem hj⟩
  refine ⟨(by show 3 ≤ sizeLine; decide), fun p1 h1 => ?_⟩
  have s1 := same_new (o := .lst [V.str "m", V.str "code", V.str "la"]) h1
  refine ⟨_, rfl, d, _, _, _, rfl, rfl, SqL.of (s1 _ _ hd), at_of (i := 30) hk, p1, pL.map V.str, _, _, rfl, rfl, SqL.of upd_same, at_of (i := j) (by rw [List.getElem?_map, hz]; rfl), ?_⟩
  exact q _ z s1 (pL_nm z (List.mem_of_getElem? hz))
end

section
variable {P : Program} {w : World} {K : PySem.W.Frag} {mg : Str → Option Value} {base : Heap} {C CN CC CT f c tb : Addr} {T' : List (Addr × Str)} {A : Around} {outer : List Env} {s : Shared} {H0 : Hp} {E : XK}
theorem st4 (L : TL P w K mg base C CN CC CT) (hr : Room 15 (XL P w K mg base f c A outer s H0 E).A) : ∃ t, PS (XL P w K mg base f c A outer s H0 E) (lb 4) t ∧
    ∀ (D : Ends) (H : Hp) (sc d lo lb : Addr) (out : List Int) (rs : List Row) (o2 o5 o6 o7 o8 o9 o10 o11 o12 : Option V), H d = some (.lst (out.map V.int)) → Drawn szL out → H lo = some (.lst (nats (outs rs))) → H lb = some (.lst (nats (brs rs))) → rs.length ≤ 13 →
      (∀ H' so ks, Same H H' → H' so = some (.lst (nats ks)) → ChOk rs (zs ks) → D.nx (sg sc (some (.ref d)) o2 (some (.ref lo)) (some (.ref lb)) (some (.ref so)) o6 o7 o8 o9 o10 o11 o12) H') →
      t D (sg sc (some (.ref d)) o2 (some (.ref lo)) (some (.ref lb)) o5 o6 o7 o8 o9 o10 o11 o12) H := by
  refine ⟨_, (ps_setLc (i := 5) (own := [("k", 13), ("draw", 14)]) (g := gE K 13 14) (tt := tOr (tTest (tOp rEq (tVar 14) (tC (.int 1)))) (tTest (tOp (rIn K false) (tVar 13) (tVar 3)))) (te := tVar 13) rfl scLaw.nd rfl rfl (sw_true rfl rfl rfl (by decide +kernel)) (pi_zip (by rfl) L.bi.zip (pa_cons (pv 4) (pa_cons (pe_slice sl_list (pv 1) (po_some pe_int) po_none) pa_nil))) (blkOk_by (N := NL) (sc := defScope sLaw) (by decide +kernel)) (fun _ _ _ _ _ => (pg_tup rfl (pgs_cons (pg_name (i := 13) scLaw.nd rfl (.inl rfl) (.inr rfl)) (pgs_cons (pg_name (i := 14) scLaw.nd rfl (.inl rfl) (.inr rfl)) pgs_nil)))) (fun _ _ _ _ _ => pts_one (PW.pt (pw_or (pt_cmpR op_eq (pv 14) pe_int (nomark _)) (pw_or1 (pt_cmpR op_in_seq (pv 13) (pv 3) (by rfl)))))) (fun _ _ _ _ _ => (pv 13))), ?_⟩
  intro D H sc d lo lb out rs o2 o5 o6 o7 o8 o9 o10 o11 o12 hd dr hlo hlb l13 q
  have ol : out.length = 31 := dr.1
  have bl := brs_len rs
  have ec : cutV (out.map V.int) (some 16) none = (out.map V.int).drop 16 := cut_from (r := 16) (by rw [List.length_map, ol]; omega)
  refine ⟨_, rfl, _, rfl, 16, rfl, d, _, rfl, SqL.of hd, fun pa hpa => ?_⟩
  rw [ec]
  have sa := same_new (o := .lst ((out.map V.int).drop 16)) hpa
  refine ⟨lb, pa, _, _, rfl, SqL.of (sa _ _ hlb), SqL.of upd_same, fun Da hDa => ?_⟩
  have hpa1 : upd H pa (.lst ((out.map V.int).drop 16)) pa = some (.lst ((out.map V.int).drop 16)) := upd_same
  generalize upd H pa (.lst ((out.map V.int).drop 16)) = H1 at sa hDa hpa1 ⊢
  have sk : ∀ {H4 : Hp}, (∀ b o, b ≠ Da → H1 b = some o → H4 b = some o) → Same H1 H4 := fun kp b o e => kp b o (ne_of_none e hDa) e
  refine lc_it (walk_zip (n := (brs rs).length) (xs := nats (brs rs)) (ys := (out.map V.int).drop 16) (by rw [nats_len, List.length_drop, List.length_map, ol]; omega))
    (fun i H4 => (∀ b o, b ≠ Da → H1 b = some o → H4 b = some o) ∧ ∃ ks : List Nat, H4 Da = some (.lst (nats ks)) ∧ ks.Sublist ((brs rs).take i) ∧ ∀ k ∈ (brs rs).take i, k ∈ outs rs → k ∈ ks)
    ⟨fun b o hb e => by rw [upd_ne hb]; exact e, [], upd_same, List.nil_sublist _, fun k hk => by rw [List.take_zero] at hk; cases hk⟩ (fun i H4 _ ⟨kp, _⟩ => ⟨SqL.of (sk kp _ _ (sa _ _ hlb)), SqL.of (sk kp _ _ hpa1)⟩) ?_ ?_
  · rintro i y H4 H4' hi ⟨kp, ks, hD4, sub, all⟩ ⟨TT, x', y', rfl, hT, rfl, hx', hy'⟩
    have hx' : (nats (brs rs))[i]? = some x' := hx'
    have hy' : ((out.map V.int).drop 16)[i]? = some y' := hy'
    obtain ⟨k, hk, rfl⟩ := nats_get hx'
    rw [List.getElem?_drop, List.getElem?_map] at hy'
    obtain ⟨dv, _, rfl⟩ := Option.map_eq_some_iff.mp hy'
    have sT := same_new (o := .tup [V.int (k : Int), V.int dv]) hT
    have hT5 : upd H4 TT (.tup [V.int (k : Int), V.int dv]) TT = some (.tup [V.int (k : Int), V.int dv]) := upd_same
    generalize upd H4 TT (.tup [V.int (k : Int), V.int dv]) = H5 at sT hT5 ⊢
    have s15 : Same H1 H5 := (sk kp).trans sT
    have hD5 := sT _ _ hD4
    have tk : (brs rs).take (i + 1) = (brs rs).take i ++ [k] := by
      rw [List.take_add_one, hk]
      rfl
    have hi2 : i < (brs rs).length := (List.getElem?_eq_some_iff.mp hk).1
    have kl : ks.length ≤ i := by
      have := sub.length_le
      rw [List.length_take] at this
      omega
    have yes : ∃ acc, H5 Da = some (.lst acc) ∧ acc.length < sizeLine ∧ ((∀ b o, b ≠ Da → H1 b = some o → upd H5 Da (.lst (acc ++ [V.int (k : Int)])) b = some o) ∧ ∃ ks : List Nat, upd H5 Da (.lst (acc ++ [V.int (k : Int)])) Da = some (.lst (nats ks)) ∧ ks.Sublist ((brs rs).take (i + 1)) ∧ ∀ k ∈ (brs rs).take (i + 1), k ∈ outs rs → k ∈ ks) := by
      refine ⟨_, hD5, by rw [nats_len]; exact small1000 (by omega), fun b o hb e => by rw [upd_ne hb]; exact sT _ _ (kp b o hb e), ks ++ [k], by rw [upd_same, nats_app]; rfl, ?_, fun j hj ho => ?_⟩
      · rw [tk]
        exact sub.append (List.Sublist.refl _)
      · rw [tk] at hj
        rcases List.mem_append.mp hj with hj | hj
        · exact List.mem_append_left _ (all j hj ho)
        · exact List.mem_append_right _ hj
    refine ⟨TT, _, rfl, SqT.of hT5, rfl, _, _, rfl, _, _, rfl, rfl, ?_⟩
    refine ⟨rfl, _, rfl, rfl, _, rfl, ?_⟩
    cases c1 : decide (V.int dv = V.int 1) with
    | true => exact iteT (iteT ⟨_, rfl, yes⟩)
    | false =>
      refine iteF ⟨_, rfl, _, rfl, lo, _, rfl, .inl (SqL.of (s15 _ _ (sa _ _ hlo))), rfl, (by rw [nats_zs]; exact flat_ints _), _, rfl, ?_⟩
      show if inV (.int (k : Int)) (nats (outs rs)) = true then _ else _
      rw [nats_zs, inV_ints]
      cases c2 : decide ((k : Int) ∈ zs (outs rs)) with
      | true => exact iteT ⟨_, rfl, yes⟩
      | false =>
        refine iteF ⟨fun b o hb e => sT _ _ (kp b o hb e), ks, hD5, ?_, fun j hj ho => ?_⟩
        · rw [tk]
          exact sub.trans (List.sublist_append_left _ _)
        · rw [tk] at hj
          rcases List.mem_append.mp hj with hj | hj
          · exact all j hj ho
          · rw [List.mem_singleton.mp hj] at ho
            have : (k : Int) ∈ zs (outs rs) := mem_zs.mpr ⟨k, ho, rfl⟩
            rw [decide_eq_true this] at c2
            cases c2
  · rintro H4 ⟨kp, ks, hD4, sub, all⟩
    rw [List.take_length] at sub all
    exact q H4 Da ks (sa.trans (sk kp)) hD4 (ch_sub sub (fun k hk => all k (outs_brs hk) hk) (by omega))
end

/-- a value of the loop: a choice that fits the rows -/
def ChV (K : PySem.W.Frag) (rs : List Row) (H : Hp) (v : V) (ns : List Int) : Prop := ∃ u, v = .ref u ∧ SqE K H u (ns.map V.int) ∧ ChOk rs ns
theorem sqE_ext {K : PySem.W.Frag} {H H' : Hp} {a : Addr} {xs : List V} (e : LamX.ExtN H H') (h : SqE K H a xs) : SqE K H' a xs := h.imp (sqL_ext e) (sqT_ext e)
theorem chV_ext {K : PySem.W.Frag} {rs : List Row} {H H' : Hp} (e : LamX.ExtN H H') {v : V} {ns : List Int} (h : ChV K rs H v ns) : ChV K rs H' v ns := by
  obtain ⟨u, e1, h1, h2⟩ := h
  exact ⟨u, e1, sqE_ext e h1, h2⟩
theorem th_ints {K : PySem.W.Frag} {H : Hp} {u : Addr} {ns : List Int} (h : SqE K H u (ns.map V.int)) : ∃ d, Th K H (.ref u) d ∧ items d = some (ns.map .int) := by
  rcases h with h | h
  · exact ⟨.list (ns.map .int), .dat (.lst h (dps_ints ns)), rfl⟩
  · exact ⟨.tuple (ns.map .int), .dat (.tup h (dps_ints ns)), rfl⟩
/-- what a call of coded_words comes to behind _law_met -/
theorem met_index {CN CC CT : Addr} {i : Int} {Q : VK} {T : List (Addr × Str)} {H H1 : Hp} (e1 : LamX.ExtN H H1) (t1 : LamX.Tabs T H1) (q : ∀ p H', LamX.ExtN H H' → LamX.Tabs T H' → H' p = some (.tup [.str "long", .int i]) → Q (.ref p) H') : ThE "index" CT (.int i) H1 (MetE CN CC CT Q) := fun H' dx s hdx => by
  refine .inr (.inr ⟨dx, .int i, rfl, rfl, upd_same, fun p hp => ?_⟩)
  have s2 := (s.trans (same_new (o := .xd [("index", .int i)]) hdx)).trans (same_new (o := .tup [.str "long", .int i]) hp)
  exact q _ _ (e1.trans (LamX.ExtN.of s2)) (t1.ext s2) upd_same
section
variable {P : Program} {w : World} {K : PySem.W.Frag} {mg : Str → Option Value} {base : Heap} {C CN CC CT f c tb : Addr} {T' : List (Addr × Str)} {A : Around} {outer : List Env} {s : Shared} {H0 : Hp} {E : XK}
theorem st5 (L : TL P w K mg base C CN CC CT) (TB : LamX.TabB base mg c tb) (hmT : (tb, qLaw) ∈ T') (hu : ∀ p ∈ T', p.1 = tb → p.2 = qLaw) (hr : Room 15 (XL P w K mg base f c A outer s H0 E).A) : ∃ t, PS (XL P w K mg base f c A outer s H0 E) (lb 5) t ∧
    ∀ (D : Ends) (H : Hp) (sc d l lo lb x so : Addr) (out : List Int) (rs : List Row) (ks : List Nat) (p : Str) (o6 o7 o8 o9 o11 : Option V), Lw K C T' out rs d l lo lb x H → Lf out rs → p ∈ nmS → H so = some (.lst (nats ks)) → ChOk rs (zs ks) →
      (∀ H' o6 o9, LamX.ExtN H H' → Lw K C T' out rs d l lo lb x H' → D.nx (sg sc (some (.ref d)) (some (.ref l)) (some (.ref lo)) (some (.ref lb)) (some (.ref so)) o6 o7 o8 o9 (some (.ref x)) o11 (some (.str p))) H') →
      t D (sg sc (some (.ref d)) (some (.ref l)) (some (.ref lo)) (some (.ref lb)) (some (.ref so)) o6 o7 o8 o9 (some (.ref x)) o11 (some (.str p))) H := by
  have hu64 := hr.units
  refine ⟨_, (ps_for (passes_of rfl) rfl (pi_tup (pe_tup (pa_cons (pv 5) (pa_cons (pv 3) (pa_cons (pv 4) (pa_cons (pe_callH L.grown (hr.mono (by decide)) (by rfl) pass0 (pa_cons (pv 2) pa_nil)) pa_nil)))))) (pg_name (i := 9) scLaw.nd rfl (.inr rfl))
    (pss_cons (ps_set (i := 6) scLaw.nd rfl (.inl rfl) (pe_tup (pa_cons pe_str (pa_cons (pe_callH L.coded (hr.mono (by decide)) (by rfl) pass0 (pa_cons (pv 2) (pa_cons (pv 9) (pa_cons (pv 12) pa_nil)))) pa_nil))))
    (pss_cons (ps_if (pt_cmpR (op_neD hu64) (pe_callH L.long (hr.mono (by decide)) (by rfl) pass0 (pa_cons (pv 2) (pa_cons (pv 9) pa_nil))) (pe_lst pa_nil) (nomark _)) (pss_one (ps_set (i := 6) scLaw.nd rfl (.inl rfl) (pe_tup (pa_cons pe_str (pa_cons (pe_ix ix_list (pe_callH L.long (hr.mono (by decide)) (by rfl) pass0 (pa_cons (pv 2) (pa_cons (pv 9) pa_nil))) pe_int (fun _ _ => rfl)) pa_nil))))) pss_nil)
    (pss_one (ps_if (pt_not (pt_val (pe_callH (L.same 7 (Nat.le_refl _)) (hr.mono (by decide)) (by rfl) pass0 (pa_cons (pe_met (k := 12) L.met (by rfl) TB rfl hmT hu (hr.mono (by decide)) (LamX.lamS_by (show LamX.lamSB (defScope sLaw) _ = true by decide +kernel)) rfl (fun _ _ _ _ _ => rfl) fun A outer s H E f c' hr => (pe_methH L.cw (pv 10) (hr.mono (by decide)) (passes_call (W := fun cls d _ H => E cls d H) (takes_of rfl rfl rfl rfl) (fun _ _ _ _ h => h)) (pa_cons (pv 12) (pa_cons (pv 9) pa_nil)))) (pa_cons (pv 6) pa_nil))))) (pss_one (ps_ret pe_bl)) pss_nil))))), ?_⟩
  intro D H sc d l lo lb x so out rs ks p o6 o7 o8 o9 o11 lw lf hp hso chs q
  have l13 := lf.len
  have okr : ∀ r ∈ rs, RowOk r := fun r hr => fine_ok ((S_ok lf.S).fine r hr)
  have LR : ∀ {H' : Hp} {ys : List V}, H' l = some (.lst ys) → PySem.W.EachIs (RowQ K H') ys rs → LRows K H' l ys rs := fun h1 h2 => ⟨SqL.of h1, rowsL_V (rowsQ_L h2), by omega⟩
  obtain ⟨ys, hl, hys⟩ := lw.rows
  refine ⟨_, rfl, _, rfl, _, rfl, _, rfl, l, ys, rs, rfl, LR hl hys, by omega, okr, fun H1 g gs s1 hg hgr => ⟨(by show 4 ≤ sizeLine; decide), fun TT hTT => ⟨TT, rfl, ⟨_, SqT.of upd_same⟩, ?_⟩⟩⟩
  have sT := same_new (o := .tup [V.ref so, V.ref lo, V.ref lb, V.ref g]) hTT
  have hT2 : upd H1 TT (.tup [V.ref so, V.ref lo, V.ref lb, V.ref g]) TT = some (.tup [V.ref so, V.ref lo, V.ref lb, V.ref g]) := upd_same
  have hg2 := sqT_same sT hg
  generalize upd H1 TT (.tup [V.ref so, V.ref lo, V.ref lb, V.ref g]) = H2 at sT hT2 hg2 ⊢
  have s2 := s1.trans sT
  have lw2 := lw.same s2
  have chv : PySem.W.EachIs (ChV K rs H2) [V.ref so, V.ref lo, V.ref lb, V.ref g] [zs ks, zs (outs rs), zs (brs rs), gs] :=
    .cons ⟨so, rfl, .inl (SqL.of (by rw [← nats_zs]; exact s2 _ _ hso)), chs⟩ (.cons ⟨lo, rfl, .inl (SqL.of (by rw [← nats_zs]; exact lw2.outs)), ch_outs (by omega)⟩ (.cons ⟨lb, rfl, .inl (SqL.of (by rw [← nats_zs]; exact lw2.brs)), ch_brs (by omega)⟩ (.cons ⟨g, rfl, .inr hg2, ch_grown hgr (by omega)⟩ .nil)))
  generalize [V.ref so, V.ref lo, V.ref lb, V.ref g] = us at hT2 chv ⊢
  generalize [zs ks, zs (outs rs), zs (brs rs), gs] = nss at chv
  refine for_it walk_tup (fun i σ H4 => ∃ o6 o9, σ = sg sc (some (.ref d)) (some (.ref l)) (some (.ref lo)) (some (.ref lb)) (some (.ref so)) o6 o7 o8 o9 (some (.ref x)) o11 (some (.str p)) ∧ LamX.ExtN H2 H4 ∧ Lw K C T' out rs d l lo lb x H4)
    ⟨o6, o9, rfl, LamX.ExtN.refl _, lw2⟩ (fun i σ H4 _ ⟨_, _, _, e4, _⟩ => SqT.of (e4 _ _ hT2 (by intro x z; cases z))) ?_ ?_
  · rintro i y σ H4 H4' hi ⟨v6, v9, rfl, e4, lw4⟩ ⟨rfl, hy⟩
    obtain ⟨ns, hns, chy⟩ := eachs_get chv hy
    obtain ⟨u, rfl, hu4, ch⟩ := chV_ext e4 chy
    obtain ⟨ys4, hl4, hys4⟩ := lw4.rows
    refine ⟨_, rfl, _, rfl, _, rfl, l, u, ys4, rs, ns, p, rfl, SqL.of hl4, hys4, lf.S, hu4, ch.out, fun H5 qq zs5 s5 _ hqq hzs lz => ⟨(by show 2 ≤ sizeLine; decide), fun t ht => ?_⟩⟩
    have st := same_new (o := .tup [V.str "told", V.ref qq]) ht
    have ht6 : upd H5 t (.tup [V.str "told", V.ref qq]) t = some (.tup [V.str "told", V.ref qq]) := upd_same
    have hqq6 := st _ _ hqq
    have hzs6 := eachs_imp (fun _ _ => sumE_s (TupS.of st)) hzs
    generalize upd H5 t (.tup [V.str "told", V.ref qq]) = H6 at st ht6 hqq6 hzs6 ⊢
    have s46 := s5.trans st
    have lw6 := lw4.same s46
    obtain ⟨ys6, hl6, hys6⟩ := lw6.rows
    have hu6 : SqE K H6 u (ns.map V.int) := sqE_ext (LamX.ExtN.of s46) hu4
    refine ⟨_, rfl, _, rfl, l, u, ys6, rs, ns, rfl, LR hl6 hys6, okr, hu6, fun H7 p7 s7 _ hp7 => ⟨Nat.zero_le _, fun p8 hp8 => ?_⟩⟩
    have s8 := same_new (o := .lst []) hp8
    refine ⟨.list ((zs (long (mem ns) rs)).map .int), .list (([] : List Int).map .int), dp_ints (SqL.of (by rw [s8 _ _ hp7, nats_zs])), .lst (SqL.of upd_same) .nil, ints_shaped _, ints_shaped [], _, rfl, ?_⟩
    rw [eqv_ints]
    have s68 := s7.trans s8
    have lw8 := lw6.same s68
    have e68 : LamX.ExtN H6 (upd H7 p8 (.lst [])) := LamX.ExtN.of s68
    generalize upd H7 p8 (.lst []) = H8 at s68 lw8 e68 ⊢
    have hu8 := sqE_ext e68 hu6
    have e28 : LamX.ExtN H2 H8 := e4.trans ((LamX.ExtN.of s46).trans e68)
    cases el : long (mem ns) rs with
    | nil =>
      refine iteF ?_
      -- the words are told
      refine ⟨lw8.tabs, fun Ha ea ta => ?_⟩
      have lwa := lw8.ext ea ta
      obtain ⟨ok, a1, a2, a3, a4, a5, a6, hd⟩ := id lwa.dr
      obtain ⟨dd, th, it⟩ := th_ints (sqE_ext ea hu8)
      refine ⟨_, rfl, x, a1, _, rfl, hd.ins, rfl, _, rfl, _, rfl, x, .str p, .ref u, rs, rfl, lwa.dr, .inr ⟨p, rfl, hp, .inr ⟨dd, ns, th, it, ch, .inr ⟨el, S_br lf.S, by omega, fun Hb q9 zs9 sb _ hq9 hzs9 lz9 => ⟨(by show 2 ≤ sizeLine; decide), fun p9 hp9 => ?_⟩⟩⟩⟩⟩
      have s9 := same_new (o := .tup [V.str "told", V.ref q9]) hp9
      have sbc := sb.trans s9
      have e6c : LamX.ExtN H6 (upd Hb p9 (.tup [V.str "told", V.ref q9])) := (e68.trans ea).trans (LamX.ExtN.of sbc)
      have ht9 := e6c _ _ ht6 (by intro x z; cases z)
      have hqq9 := e6c _ _ hqq6 (by intro x z; cases z)
      have hzsc := eachs_imp (fun _ _ => sumE_s (kp_ext (K := K) e6c).tu) hzs6
      have hzsd := eachs_imp (fun _ _ => sumE_s (TupS.of s9)) hzs9
      rw [codT_codL lf.S] at hzsd
      refine ⟨_, rfl, .ref p9, .ref t, rfl, sm_two (SqT.of upd_same) (SqT.of ht9) (fun _ _ => sm_str) (fun Hd sd => sm_words (sd _ _ (s9 _ _ hq9)) (sd _ _ hqq9) (eachs_imp (fun _ _ => sumE_s (TupS.of sd)) hzsd) (eachs_imp (fun _ _ => sumE_s (TupS.of sd)) hzsc) (codL_sm lf.S _) (by omega)), fun He se => ⟨_, rfl, iteF ⟨_, _, rfl, ?_, ?_⟩⟩⟩
      · exact (e28.trans ea).trans (LamX.ExtN.of (sbc.trans se))
      · exact lwa.same (sbc.trans se)
    | cons k0 kk =>
      obtain ⟨ys8, hl8, hys8⟩ := lw8.rows
      refine iteT ⟨_, rfl, _, rfl, l, u, ys8, rs, ns, rfl, LR hl8 hys8, okr, hu8, fun H9 p9 s9 _ hp9 => ?_⟩
      rw [el] at hp9
      refine ⟨p9, _, _, _, rfl, rfl, SqL.of hp9, at_of (i := 0) rfl, (by show 2 ≤ sizeLine; decide), fun t2 ht2 => ?_⟩
      have st2 := same_new (o := .tup [V.str "long", V.int (k0 : Int)]) ht2
      have ht10 : upd H9 t2 (.tup [V.str "long", V.int (k0 : Int)]) t2 = some (.tup [V.str "long", V.int (k0 : Int)]) := upd_same
      generalize upd H9 t2 (.tup [V.str "long", V.int (k0 : Int)]) = H10 at st2 ht10 ⊢
      have s810 := s9.trans st2
      have lw10 := lw8.same s810
      have e10 : LamX.ExtN H8 H10 := LamX.ExtN.of s810
      refine ⟨lw10.tabs, fun Ha ea ta => ?_⟩
      have lwa := lw10.ext ea ta
      obtain ⟨ok, a1, a2, a3, a4, a5, a6, hd⟩ := id lwa.dr
      obtain ⟨dd, th, it⟩ := th_ints (sqE_ext ea (sqE_ext e10 hu8))
      refine ⟨_, rfl, x, a1, _, rfl, hd.ins, rfl, _, rfl, _, rfl, x, .str p, .ref u, rs, rfl, lwa.dr, .inr ⟨p, rfl, hp, .inr ⟨dd, ns, th, it, ch, .inl ⟨k0, kk, el, met_index ea ta fun pz Hz ez tz hz => ?_⟩⟩⟩⟩
      have htz := ez _ _ ht10 (by intro x z; cases z)
      refine ⟨_, rfl, .ref pz, .ref t2, rfl, sm_two (SqT.of hz) (SqT.of htz) (fun _ _ => sm_str) (fun _ _ => sm_int), fun He se => ⟨_, rfl, iteF ⟨_, _, rfl, ?_, ?_⟩⟩⟩
      · exact ((e28.trans e10).trans ez).trans (LamX.ExtN.of se)
      · exact (lw10.ext ez tz).same se
  · rintro σ H4 ⟨v6, v9, rfl, e4, lw4⟩
    exact q H4 v6 v9 ((LamX.ExtN.of s2).trans e4) lw4
end

/-! ### odd names and choices -/
inductive OddV (H : Hp) : V → Prop
  | non : OddV H .non
  | s0 : OddV H (.str "")
  | s1 : OddV H (.str "A")
  | int : OddV H (.int 5)
  | lst {a : Addr} : H a = some (.lst [.str "m"]) → OddV H (.ref a)
  | s2 : OddV H (.str "abcdefghi")
inductive BadV (n : Int) (H : Hp) : V → Prop
  | non : BadV n H .non
  | int : BadV n H (.int 5)
  | one {a : Addr} : H a = some (.lst [.int n]) → BadV n H (.ref a)
  | str : BadV n H (.str "ab")
  | dct {a : Addr} : H a = some (.dK []) → BadV n H (.ref a)
  | lst {a : Addr} : H a = some (.lst [.non]) → BadV n H (.ref a)
theorem OddV.ext {H H' : Hp} {v : V} (e : LamX.ExtN H H') (h : OddV H v) : OddV H' v := by
  cases h with
  | non => exact .non
  | s0 => exact .s0
  | s1 => exact .s1
  | int => exact .int
  | lst h => exact .lst (e _ _ h (by intro x z; cases z))
  | s2 => exact .s2
theorem BadV.ext {n : Int} {H H' : Hp} {v : V} (e : LamX.ExtN H H') (h : BadV n H v) : BadV n H' v := by
  cases h with
  | non => exact .non
  | int => exact .int
  | one h => exact .one (e _ _ h (by intro x z; cases z))
  | str => exact .str
  | dct h => exact .dct (e _ _ h (by intro x z; cases z))
  | lst h => exact .lst (e _ _ h (by intro x z; cases z))
theorem OddV.put {H : Hp} {v : V} {r t : Addr} {o : HO} (h : OddV H v) (hr : H r = some (.lst [.ref t])) : OddV (upd H r o) v := by
  cases h with
  | non => exact .non
  | s0 => exact .s0
  | s1 => exact .s1
  | int => exact .int
  | lst h => exact .lst (by rw [upd_ne (ne_of h hr (by intro z; cases z))]; exact h)
  | s2 => exact .s2
theorem BadV.put {n : Int} {H : Hp} {v : V} {r t : Addr} {o : HO} (h : BadV n H v) (hr : H r = some (.lst [.ref t])) : BadV n (upd H r o) v := by
  cases h with
  | non => exact .non
  | int => exact .int
  | one h => exact .one (by rw [upd_ne (ne_of h hr (by intro z; cases z))]; exact h)
  | str => exact .str
  | dct h => exact .dct (by rw [upd_ne (ne_of h hr (by intro z; cases z))]; exact h)
  | lst h => exact .lst (by rw [upd_ne (ne_of h hr (by intro z; cases z))]; exact h)
theorem OddV.th {K : PySem.W.Frag} {H : Hp} {v : V} (h : OddV H v) : ∃ d, Th K H v d ∧ shortS d ∧ isNm d = false := by
  cases h with
  | non => exact ⟨_, .dat .non, trivial, rfl⟩
  | s0 => exact ⟨_, .dat (.str _), (by show (Str.ofString "").length ≤ 1000; decide +kernel), (by show isNmS _ = false; decide +kernel)⟩
  | s1 => exact ⟨_, .dat (.str _), (by show (Str.ofString "A").length ≤ 1000; decide +kernel), (by show isNmS _ = false; decide +kernel)⟩
  | int => exact ⟨_, .dat (.int _), trivial, rfl⟩
  | lst h => exact ⟨_, .dat (.lst (SqL.of h) (.cons (.str _) .nil)), trivial, rfl⟩
  | s2 => exact ⟨_, .dat (.str _), (by show (Str.ofString "abcdefghi").length ≤ 1000; decide +kernel), (by show isNmS _ = false; decide +kernel)⟩
theorem BadV.th {K : PySem.W.Frag} {H : Hp} {v : V} {rs : List Row} (h : BadV ((rs.length : Nat) : Int) H v) : ∃ d, Th K H v d ∧ (items d = none ∨ ∃ ds, items d = some ds ∧ ds.length ≤ 900 ∧ ds.all (brB rs) = false) := by
  cases h with
  | non => exact ⟨_, .dat .non, .inl rfl⟩
  | int => exact ⟨_, .dat (.int _), .inl rfl⟩
  | one h =>
    refine ⟨_, .dat (.lst (SqL.of h) (.cons (.int _) .nil)), .inr ⟨_, rfl, (by show 1 ≤ 900; decide), ?_⟩⟩
    have : decide (((rs.length : Nat) : Int) ∈ (brs rs).map fun (k : Nat) => (k : Int)) = false := decide_eq_false fun z => by
      obtain ⟨k, hk, e⟩ := List.mem_map.mp z
      unfold brs brsTo at hk
      have := List.mem_range.mp (List.mem_filter.mp hk).1
      omega
    show (decide _ && true) = false
    rw [this]
    rfl
  | str => exact ⟨_, .dat (.str _), .inl rfl⟩
  | dct h => exact ⟨_, .dct h, .inl rfl⟩
  | lst h => exact ⟨_, .dat (.lst (SqL.of h) (.cons .non .nil)), .inr ⟨_, rfl, (by show 1 ≤ 900; decide), rfl⟩⟩
theorem sm_one {K : PySem.W.Frag} {H : Hp} {a : Addr} {v : V} {n : Nat} (h : H a = some (.lst [v])) (f : ∀ H', SmRel K n H' v v) : SmRel K (n + 1) H (.ref a) (.ref a) :=
  ⟨_, .lst (SqL.of h) (SqL.of h) rfl (by show 1 ≤ 200000; decide) fun H' e i x y hx hy => by
    match i, hx, hy with
    | 0, hx, hy =>
      cases hx
      cases hy
      exact f H'
    | i + 1, hx, _ => exact absurd hx (by simp)⟩
theorem OddV.sm {K : PySem.W.Frag} {H : Hp} {v : V} (h : OddV H v) : SmRel K 2 H v v := by
  cases h with
  | non => exact ⟨_, .non⟩
  | s0 => exact sm_str
  | s1 => exact sm_str
  | int => exact sm_int
  | lst h => exact sm_one h fun _ => sm_str
  | s2 => exact sm_str
theorem BadV.sm {K : PySem.W.Frag} {n : Int} {H : Hp} {v : V} (h : BadV n H v) : SmRel K 2 H v v := by
  cases h with
  | non => exact ⟨_, .non⟩
  | int => exact sm_int
  | one h => exact sm_one h fun _ => sm_int
  | str => exact sm_str
  | dct h => exact ⟨_, .dct h⟩
  | lst h => exact sm_one h fun _ => ⟨_, .non⟩
def oddL (p : Addr) : List V := [.non, .str "", .str "A", .int 5, .ref p, .str "abcdefghi"]
def badL (n : Int) (p q r : Addr) : List V := [.non, .int 5, .ref p, .str "ab", .ref q, .ref r]
theorem odd_at {H : Hp} {p : Addr} (h : H p = some (.lst [.str "m"])) {j : Nat} (hj : j < 6) : ∃ v, (oddL p)[j]? = some v ∧ OddV H v := by
  match j, hj with
  | 0, _ => exact ⟨_, rfl, .non⟩
  | 1, _ => exact ⟨_, rfl, .s0⟩
  | 2, _ => exact ⟨_, rfl, .s1⟩
  | 3, _ => exact ⟨_, rfl, .int⟩
  | 4, _ => exact ⟨_, rfl, .lst h⟩
  | 5, _ => exact ⟨_, rfl, .s2⟩
  | j + 6, h => exact absurd h (by omega)
theorem bad_at {H : Hp} {n : Int} {p q r : Addr} (h1 : H p = some (.lst [.int n])) (h2 : H q = some (.dK [])) (h3 : H r = some (.lst [.non])) {j : Nat} (hj : j < 6) : ∃ v, (badL n p q r)[j]? = some v ∧ BadV n H v := by
  match j, hj with
  | 0, _ => exact ⟨_, rfl, .non⟩
  | 1, _ => exact ⟨_, rfl, .int⟩
  | 2, _ => exact ⟨_, rfl, .one h1⟩
  | 3, _ => exact ⟨_, rfl, .str⟩
  | 4, _ => exact ⟨_, rfl, .dct h2⟩
  | 5, _ => exact ⟨_, rfl, .lst h3⟩
  | j + 6, h => exact absurd h (by omega)
theorem met_name {CN CC CT : Addr} {v : V} {Q : VK} {T : List (Addr × Str)} {H H1 : Hp} (e1 : LamX.ExtN H H1) (t1 : LamX.Tabs T H1) (q : ∀ p H', LamX.ExtN H H' → LamX.Tabs T H' → H' p = some (.tup [.str "name", v]) → Q (.ref p) H') : ThE "name" CN v H1 (MetE CN CC CT Q) := fun H' dx s hdx => by
  refine .inl ⟨dx, v, rfl, rfl, upd_same, fun p hp => ?_⟩
  have s2 := (s.trans (same_new (o := .xd [("name", v)]) hdx)).trans (same_new (o := .tup [.str "name", v]) hp)
  exact q _ _ (e1.trans (LamX.ExtN.of s2)) (t1.ext s2) upd_same
theorem met_thing {CN CC CT : Addr} {v : V} {Q : VK} {T : List (Addr × Str)} {H H1 : Hp} (e1 : LamX.ExtN H H1) (t1 : LamX.Tabs T H1) (q : ∀ p H', LamX.ExtN H H' → LamX.Tabs T H' → H' p = some (.tup [.str "choice", v]) → Q (.ref p) H') : ThE "thing" CC v H1 (MetE CN CC CT Q) := fun H' dx s hdx => by
  refine .inr (.inl ⟨dx, v, rfl, rfl, upd_same, fun p hp => ?_⟩)
  have s2 := (s.trans (same_new (o := .xd [("thing", v)]) hdx)).trans (same_new (o := .tup [.str "choice", v]) hp)
  exact q _ _ (e1.trans (LamX.ExtN.of s2)) (t1.ext s2) upd_same
theorem long_brs (rs : List Row) : long (mem (zs (brs rs))) rs = [] := by
  unfold long
  refine List.filter_eq_nil_iff.mpr fun k hk h => ?_
  have h1 : mem (zs (brs rs)) (k : Nat) = true := decide_eq_true (mem_zs.mpr ⟨k, inn_brs hk, rfl⟩)
  unfold isLong at h
  rw [h1] at h
  cases h

section
variable {P : Program} {w : World} {K : PySem.W.Frag} {mg : Str → Option Value} {base : Heap} {C CN CC CT f c tb : Addr} {T' : List (Addr × Str)} {A : Around} {outer : List Env} {s : Shared} {H0 : Hp} {E : XK}
theorem st6 (L : TL P w K mg base C CN CC CT) (hr : Room 15 (XL P w K mg base f c A outer s H0 E).A) : ∃ t, PS (XL P w K mg base f c A outer s H0 E) (lb 6) t ∧
    ∀ (D : Ends) (H : Hp) (sc d l lo lb x : Addr) (out : List Int) (rs : List Row) (p : Str) (o5 o6 o7 o8 o9 o11 : Option V), Lw K C T' out rs d l lo lb x H → Lf out rs → p ∈ nmS →
      (∀ H', Same H H' → D.nx (sg sc (some (.ref d)) (some (.ref l)) (some (.ref lo)) (some (.ref lb)) o5 o6 o7 o8 o9 (some (.ref x)) o11 (some (.str p))) H') →
      t D (sg sc (some (.ref d)) (some (.ref l)) (some (.ref lo)) (some (.ref lb)) o5 o6 o7 o8 o9 (some (.ref x)) o11 (some (.str p))) H := by
  refine ⟨_, (ps_expr (pe_bm PySem.F.plainAttrs_list PySem.F.slot_list_append PySem.F.type_list_append mt_append (pe_methH L.cw (pv 10) (hr.mono (by decide)) (passes_call (W := fun cls d _ H => E cls d H) (takes_of rfl rfl rfl rfl) (fun _ _ _ _ h => h)) (pa_cons (pv 12) (pa_cons (pv 4) pa_nil))) (pa_cons pe_str pa_nil))), ?_⟩
  intro D H sc d l lo lb x out rs p o5 o6 o7 o8 o9 o11 lw lf hp q
  have l13 := lf.len
  obtain ⟨ok, a1, a2, a3, a4, a5, a6, hd⟩ := id lw.dr
  obtain ⟨dd, th, it⟩ := th_ints (K := K) (ns := zs (brs rs)) (.inl (SqL.of (by rw [← nats_zs]; exact lw.brs)))
  refine ⟨_, rfl, x, a1, _, rfl, hd.ins, rfl, _, rfl, _, rfl, x, .str p, .ref lb, rs, rfl, lw.dr, .inr ⟨p, rfl, hp, .inr ⟨dd, _, th, it, ch_brs (by omega), .inr ⟨long_brs rs, S_br lf.S, by omega, fun Hb q9 zs9 sb hn hq9 hzs9 lz9 => ?_⟩⟩⟩⟩
  refine ⟨.inl ⟨rfl, _, SqL.of hq9⟩, q9, zs9, .str "more", rfl, rfl, hq9, smallB (by omega), q _ fun b o e => ?_⟩
  rw [upd_ne (ne_of_none e hn)]
  exact sb _ _ e
theorem st7 (L : TL P w K mg base C CN CC CT) (hr : Room 15 (XL P w K mg base f c A outer s H0 E).A) : ∃ t, PS (XL P w K mg base f c A outer s H0 E) (lb 7) t ∧
    ∀ (D : Ends) (H : Hp) (sc d l lo lb x : Addr) (out : List Int) (rs : List Row) (p : Str) (o5 o6 o7 o8 o9 o11 : Option V), Lw K C T' out rs d l lo lb x H → Lf out rs → p ∈ nmS →
      (∀ H', Same H H' → D.nx (sg sc (some (.ref d)) (some (.ref l)) (some (.ref lo)) (some (.ref lb)) o5 o6 o7 o8 o9 (some (.ref x)) o11 (some (.str p))) H') →
      t D (sg sc (some (.ref d)) (some (.ref l)) (some (.ref lo)) (some (.ref lb)) o5 o6 o7 o8 o9 (some (.ref x)) o11 (some (.str p))) H := by
  refine ⟨_, (ps_if (pt_not (pt_val (pe_callH (L.same 6 (by decide)) (hr.mono (by decide)) (by rfl) pass0 (pa_cons (pe_methH L.cw (pv 10) (hr.mono (by decide)) (passes_call (W := fun cls d _ H => E cls d H) (takes_of rfl rfl rfl rfl) (fun _ _ _ _ h => h)) (pa_cons (pv 12) (pa_cons (pe_callTy call_tuple_of (by rfl) L.bi.tuple (by decide +kernel) (pa_cons (pv 4) pa_nil)) pa_nil))) (pa_cons (pe_callH L.coded (hr.mono (by decide)) (by rfl) pass0 (pa_cons (pv 2) (pa_cons (pv 4) (pa_cons (pv 12) pa_nil)))) pa_nil))))) (pss_one (ps_ret pe_bl)) pss_nil), ?_⟩
  intro D H sc d l lo lb x out rs p o5 o6 o7 o8 o9 o11 lw lf hp q
  have l13 := lf.len
  obtain ⟨ok, a1, a2, a3, a4, a5, a6, hd⟩ := id lw.dr
  refine ⟨_, rfl, x, a1, _, rfl, hd.ins, rfl, _, rfl, _, rfl, lb, _, rfl, .inl ⟨SqL.of lw.brs, fun pt hpt => ?_⟩⟩
  have st := same_new (o := .tup (nats (brs rs))) hpt
  have ht : SqT K (upd H pt (.tup (nats (brs rs)))) pt ((zs (brs rs)).map V.int) := SqT.of (by rw [upd_same, nats_zs])
  have lw1 := lw.same st
  generalize upd H pt (.tup (nats (brs rs))) = H1 at st ht lw1 ⊢
  obtain ⟨dd, th, it⟩ := th_ints (K := K) (ns := zs (brs rs)) (.inr ht)
  refine ⟨x, .str p, .ref pt, rs, rfl, lw1.dr, .inr ⟨p, rfl, hp, .inr ⟨dd, _, th, it, ch_brs (by omega), .inr ⟨long_brs rs, S_br lf.S, by omega, fun Hb q9 zs9 sb hn hq9 hzs9 lz9 => ?_⟩⟩⟩⟩
  have lwb := lw1.same sb
  obtain ⟨ys, hl, hys⟩ := lwb.rows
  refine ⟨_, rfl, _, rfl, _, rfl, l, lb, ys, rs, zs (brs rs), p, rfl, SqL.of hl, hys, lf.S, .inl (SqL.of (by rw [← nats_zs]; exact lwb.brs)), (ch_brs (by omega)).out, fun Hc qq zs5 sc5 _ hqq hzs lz => ?_⟩
  have hz9 := eachs_imp (fun _ _ => sumE_s (TupS.of sc5)) hzs9
  rw [codT_codL lf.S] at hz9
  exact ⟨.ref q9, .ref qq, rfl, sm_words (sc5 _ _ hq9) hqq hz9 hzs (codL_sm lf.S _) (by omega), fun He se => ⟨_, rfl, iteF (q He (((st.trans sb).trans sc5).trans se))⟩⟩
theorem st8 (L : TL P w K mg base C CN CC CT) (hr : Room 15 (XL P w K mg base f c A outer s H0 E).A) : ∃ t, PS (XL P w K mg base f c A outer s H0 E) (lb 8) t ∧
    ∀ (D : Ends) (H : Hp) (sc d l lo lb x : Addr) (out : List Int) (rs : List Row) (o5 o6 o7 o8 o9 o11 o12 : Option V), Lw K C T' out rs d l lo lb x H → Lf out rs →
      (∀ H' v u, Same H H' → OddV H' v → BadV ((rs.length : Nat) : Int) H' u → D.nx (sg sc (some (.ref d)) (some (.ref l)) (some (.ref lo)) (some (.ref lb)) o5 o6 o7 (some u) o9 (some (.ref x)) (some v) o12) H') →
      t D (sg sc (some (.ref d)) (some (.ref l)) (some (.ref lo)) (some (.ref lb)) o5 o6 o7 o8 o9 (some (.ref x)) o11 o12) H := by
  refine ⟨_, (ps_asg (pe_tup (pa_cons (pe_ix ix_list (pe_lst (pa_cons pe_non (pa_cons pe_str (pa_cons pe_str (pa_cons pe_int (pa_cons (pe_lst (pa_cons pe_str pa_nil)) (pa_cons pe_str pa_nil))))))) (pe_ix ix_list (pv 1) pe_int (fun _ _ => rfl)) (fun _ _ => rfl)) (pa_cons (pe_ix ix_list (pe_lst (pa_cons pe_non (pa_cons pe_int (pa_cons (pe_lst (pa_cons (pe_callB call_len_seq (by rfl) L.bi.len (by decide +kernel) (pa_cons (pv 2) pa_nil)) pa_nil)) (pa_cons pe_str (pa_cons pe_dnewK (pa_cons (pe_lst (pa_cons pe_non pa_nil)) pa_nil))))))) (pe_ix ix_list (pv 1) pe_int (fun _ _ => rfl)) (fun _ _ => rfl)) pa_nil))) (pg_tup rfl (pgs_cons (pg_name (i := 11) scLaw.nd rfl (.inr rfl)) (pgs_cons (pg_name (i := 8) scLaw.nd rfl (.inr rfl)) pgs_nil)))), ?_⟩
  intro D H sc d l lo lb x out rs o5 o6 o7 o8 o9 o11 o12 lw lf q
  obtain ⟨k, hk, k0, k1⟩ := drawn_at lf.dr (i := 28) (z := 6) rfl
  obtain ⟨m, hm, m0, m1⟩ := drawn_at lf.dr (i := 29) (z := 6) rfl
  obtain ⟨i, rfl⟩ := Int.eq_ofNat_of_zero_le k0
  obtain ⟨j, rfl⟩ := Int.eq_ofNat_of_zero_le m0
  obtain ⟨ys, hl, hys⟩ := lw.rows
  have yl := hys.length
  refine ⟨(by show 1 ≤ sizeLine; decide), fun p1 h1 => ⟨(by show 6 ≤ sizeLine; decide), fun p2 h2 => ?_⟩⟩
  have s1 := same_new (o := .lst [V.str "m"]) h1
  have s2 := same_new (o := .lst [V.non, V.str "", V.str "A", V.int 5, V.ref p1, V.str "abcdefghi"]) h2
  have s12 := s1.trans s2
  have g1 : upd (upd H p1 (.lst [V.str "m"])) p2 (.lst [V.non, V.str "", V.str "A", V.int 5, V.ref p1, V.str "abcdefghi"]) p1 = some (.lst [V.str "m"]) := s2 _ _ upd_same
  have g2 : upd (upd H p1 (.lst [V.str "m"])) p2 (.lst [V.non, V.str "", V.str "A", V.int 5, V.ref p1, V.str "abcdefghi"]) p2 = some (.lst [V.non, V.str "", V.str "A", V.int 5, V.ref p1, V.str "abcdefghi"]) := upd_same
  obtain ⟨v, hv, hov⟩ := odd_at g1 (j := i) (by omega)
  have lw2 := lw.same s12
  generalize upd (upd H p1 (.lst [V.str "m"])) p2 (.lst [V.non, V.str "", V.str "A", V.int 5, V.ref p1, V.str "abcdefghi"]) = H2 at s12 g1 g2 hov lw2 ⊢
  obtain ⟨ys2, hl2, hys2⟩ := lw2.rows
  have yl2 := hys2.length
  refine ⟨_, rfl, d, _, _, _, rfl, rfl, SqL.of lw2.draws, at_of (i := 28) hk, p2, oddL p1, _, _, rfl, rfl, SqL.of g2, at_of (i := i) hv, ?_⟩
  refine ⟨_, rfl, l, ys2, rfl, .inl (SqL.of hl2), (by show 1 ≤ sizeLine; decide), fun p3 h3 => fun p4 h4 => ⟨(by show 1 ≤ sizeLine; decide), fun p5 h5 => ⟨(by show 6 ≤ sizeLine; decide), fun p6 h6 => ?_⟩⟩⟩
  rw [yl2] at h4 h5 h6 ⊢
  have s3 := same_new (o := .lst [V.int ((rs.length : Nat) : Int)]) h3
  have s4 := same_new (o := .dK []) h4
  have s5 := same_new (o := .lst [V.non]) h5
  have s6 := same_new (o := .lst (badL ((rs.length : Nat) : Int) p3 p4 p5)) h6
  have s36 := ((s3.trans s4).trans s5).trans s6
  have g3 := ((s4.trans s5).trans s6) _ _ (upd_same (H := H2) (a := p3) (o := .lst [V.int ((rs.length : Nat) : Int)]))
  have g4 := (s5.trans s6) _ _ (upd_same (H := upd H2 p3 (.lst [V.int ((rs.length : Nat) : Int)])) (a := p4) (o := .dK []))
  have g5 := s6 _ _ (upd_same (H := upd (upd H2 p3 (.lst [V.int ((rs.length : Nat) : Int)])) p4 (.dK [])) (a := p5) (o := .lst [V.non]))
  have g6 : upd (upd (upd (upd H2 p3 (.lst [V.int ((rs.length : Nat) : Int)])) p4 (.dK [])) p5 (.lst [V.non])) p6 (.lst (badL ((rs.length : Nat) : Int) p3 p4 p5)) p6 = some (.lst (badL ((rs.length : Nat) : Int) p3 p4 p5)) := upd_same
  obtain ⟨u, hu, hbu⟩ := bad_at g3 g4 g5 (j := j) (by omega)
  refine ⟨_, rfl, d, _, _, _, rfl, rfl, SqL.of (s36 _ _ lw2.draws), at_of (i := 29) hm, p6, badL ((rs.length : Nat) : Int) p3 p4 p5, _, _, rfl, rfl, SqL.of g6, at_of (i := j) hu, (by show 2 ≤ sizeLine; decide), fun p7 h7 => ?_⟩
  have s7 := same_new (o := .tup [v, u]) h7
  have g7 : upd (upd (upd (upd (upd H2 p3 (.lst [V.int ((rs.length : Nat) : Int)])) p4 (.dK [])) p5 (.lst [V.non])) p6 (.lst (badL ((rs.length : Nat) : Int) p3 p4 p5))) p7 (.tup [v, u]) p7 = some (.tup [v, u]) := upd_same
  exact ⟨p7, _, rfl, SqT.of g7, rfl, _, _, rfl, _, _, rfl, rfl, q _ v u ((s12.trans s36).trans s7) (hov.ext (LamX.ExtN.of (s36.trans s7))) (hbu.ext (LamX.ExtN.of s7))⟩
theorem st9 (L : TL P w K mg base C CN CC CT) (TB : LamX.TabB base mg c tb) (hmT : (tb, qLaw) ∈ T') (hu : ∀ p ∈ T', p.1 = tb → p.2 = qLaw) (hr : Room 15 (XL P w K mg base f c A outer s H0 E).A) : ∃ t, PS (XL P w K mg base f c A outer s H0 E) (lb 9) t ∧
    ∀ (D : Ends) (H : Hp) (sc x : Addr) (rs : List Row) (v u : V) (p : Str) (o1 o2 o3 o4 o5 o6 o7 o9 : Option V), LamX.Tabs T' H → DraftV K H C x rs → OddV H v →
      (∀ H' r t1, LamX.ExtN H H' → LamX.Tabs T' H' → H' r = some (.lst [.ref t1]) → H' t1 = some (.tup [.str "name", v]) → D.nx (sg sc o1 o2 o3 o4 o5 o6 (some (.ref r)) (some u) o9 (some (.ref x)) (some v) (some (.str p))) H') →
      t D (sg sc o1 o2 o3 o4 o5 o6 o7 (some u) o9 (some (.ref x)) (some v) (some (.str p))) H := by
  refine ⟨_, (ps_set (i := 7) scLaw.nd rfl (.inl rfl) (pe_lst (pa_cons (pe_met (k := 12) L.met (by rfl) TB rfl hmT hu (hr.mono (by decide)) (LamX.lamS_by (show LamX.lamSB (defScope sLaw) _ = true by decide +kernel)) rfl (fun _ _ _ _ _ => rfl) fun A outer s H E f c' hr => (pe_methH L.cw (pv 10) (hr.mono (by decide)) (passes_call (W := fun cls d _ H => E cls d H) (takes_of rfl rfl rfl rfl) (fun _ _ _ _ h => h)) (pa_cons (pv 11) (pa_cons (pv 8) pa_nil)))) pa_nil))), ?_⟩
  intro D H sc x rs v u p o1 o2 o3 o4 o5 o6 o7 o9 hT hdr hv q
  refine ⟨hT, fun H1 e1 t1 => ?_⟩
  have hdr1 := draft_ext e1 hdr
  obtain ⟨ok, a1, a2, a3, a4, a5, a6, h⟩ := id hdr1
  obtain ⟨dd, th, sh, nn⟩ := (hv.ext e1).th (K := K)
  refine ⟨_, rfl, x, a1, _, rfl, h.ins, rfl, _, rfl, _, rfl, x, v, u, rs, rfl, hdr1, .inl ⟨dd, th, sh, nn, met_name e1 t1 fun pz H2 e2 t2 h2 => ⟨(by show 1 ≤ sizeLine; decide), fun r hr => ?_⟩⟩⟩
  have s3 := same_new (o := .lst [V.ref pz]) hr
  exact q _ r pz (e2.trans (LamX.ExtN.of s3)) (t2.ext s3) upd_same (s3 _ _ h2)
theorem st10 (L : TL P w K mg base C CN CC CT) (TB : LamX.TabB base mg c tb) (hmT : (tb, qLaw) ∈ T') (hu : ∀ p ∈ T', p.1 = tb → p.2 = qLaw) (hr : Room 15 (XL P w K mg base f c A outer s H0 E).A) : ∃ t, PS (XL P w K mg base f c A outer s H0 E) (lb 10) t ∧
    ∀ (D : Ends) (H : Hp) (sc x r t1 : Addr) (rs : List Row) (v u : V) (p : Str) (o1 o2 o3 o4 o5 o6 o9 : Option V), LamX.Tabs T' H → DraftV K H C x rs → p ∈ nmS → BadV ((rs.length : Nat) : Int) H u → H r = some (.lst [.ref t1]) →
      (∀ H' t2, LamX.ExtN H H' → LamX.Tabs T' H' → H' t2 = some (.tup [.str "choice", u]) → H' r = some (.lst [.ref t1]) → D.nx (sg sc o1 o2 o3 o4 o5 o6 (some (.ref r)) (some u) o9 (some (.ref x)) (some v) (some (.str p))) (upd H' r (.lst [.ref t1, .ref t2]))) →
      t D (sg sc o1 o2 o3 o4 o5 o6 (some (.ref r)) (some u) o9 (some (.ref x)) (some v) (some (.str p))) H := by
  refine ⟨_, (ps_expr (pe_bm PySem.F.plainAttrs_list PySem.F.slot_list_append PySem.F.type_list_append mt_append (pv 7) (pa_cons (pe_met (k := 12) L.met (by rfl) TB rfl hmT hu (hr.mono (by decide)) (LamX.lamS_by (show LamX.lamSB (defScope sLaw) _ = true by decide +kernel)) rfl (fun _ _ _ _ _ => rfl) fun A outer s H E f c' hr => (pe_methH L.cw (pv 10) (hr.mono (by decide)) (passes_call (W := fun cls d _ H => E cls d H) (takes_of rfl rfl rfl rfl) (fun _ _ _ _ h => h)) (pa_cons (pv 12) (pa_cons (pv 8) pa_nil)))) pa_nil))), ?_⟩
  intro D H sc x r t1 rs v u p o1 o2 o3 o4 o5 o6 o9 hT hdr hp hbu hrr q
  refine ⟨_, rfl, .inl ⟨rfl, _, SqL.of hrr⟩, hT, fun H1 e1 t1e => ?_⟩
  have hdr1 := draft_ext e1 hdr
  obtain ⟨ok, a1, a2, a3, a4, a5, a6, h⟩ := id hdr1
  obtain ⟨dd, th, bad⟩ := (hbu.ext e1).th (K := K)
  refine ⟨_, rfl, x, a1, _, rfl, h.ins, rfl, _, rfl, _, rfl, x, .str p, u, rs, rfl, hdr1, .inr ⟨p, rfl, hp, .inl ⟨dd, th, bad, met_thing e1 t1e fun pz H2 e2 t2e h2 => ?_⟩⟩⟩
  have hr2 := e2 _ _ hrr (by intro x z; cases z)
  exact ⟨r, _, _, rfl, rfl, hr2, (by show 1 < sizeLine; decide), q _ pz e2 t2e h2 hr2⟩
theorem st11 (L : TL P w K mg base C CN CC CT) (hr : Room 15 (XL P w K mg base f c A outer s H0 E).A) : ∃ t, PS (XL P w K mg base f c A outer s H0 E) (lb 11) t ∧
    ∀ (H : Hp) (Q : VK) (N : L2.St → Hp → Prop) (sc r t1 t2 : Addr) (v u : V) (n : Int) (o1 o2 o3 o4 o5 o6 o9 o10 o12 : Option V), H r = some (.lst [.ref t1, .ref t2]) → H t1 = some (.tup [.str "name", v]) → H t2 = some (.tup [.str "choice", u]) → OddV H v → BadV n H u → (∀ H', Q (.bl true) H') →
      t { nx := N, rt := Q } (sg sc o1 o2 o3 o4 o5 o6 (some (.ref r)) (some u) o9 o10 (some v) o12) H := by
  refine ⟨_, (ps_ret (pe_callH (L.same 4 (by decide)) (hr.mono (by decide)) (by rfl) pass0 (pa_cons (pv 7) (pa_cons (pe_lst (pa_cons (pe_tup (pa_cons pe_str (pa_cons (pv 11) pa_nil))) (pa_cons (pe_tup (pa_cons pe_str (pa_cons (pv 8) pa_nil))) pa_nil))) pa_nil)))), ?_⟩
  intro H Q N sc r t1 t2 v u n o1 o2 o3 o4 o5 o6 o9 o10 o12 hrr h1 h2 hv hbu q
  refine ⟨_, rfl, _, rfl, (by show 2 ≤ sizeLine; decide), fun p1 hp1 => ⟨_, rfl, (by show 2 ≤ sizeLine; decide), fun p2 hp2 => ⟨(by show 2 ≤ sizeLine; decide), fun p3 hp3 => ?_⟩⟩⟩
  have s1 := same_new (o := .tup [V.str "name", v]) hp1
  have s2 := same_new (o := .tup [V.str "choice", u]) hp2
  have s3 := same_new (o := .lst [V.ref p1, V.ref p2]) hp3
  have s13 := (s1.trans s2).trans s3
  have g1 := (s2.trans s3) _ _ (upd_same (H := H) (a := p1) (o := .tup [V.str "name", v]))
  have g2 := s3 _ _ (upd_same (H := upd H p1 (.tup [V.str "name", v])) (a := p2) (o := .tup [V.str "choice", u]))
  have g3 : upd (upd (upd H p1 (.tup [V.str "name", v])) p2 (.tup [V.str "choice", u])) p3 (.lst [V.ref p1, V.ref p2]) p3 = some (.lst [V.ref p1, V.ref p2]) := upd_same
  refine ⟨.ref r, .ref p3, rfl, ⟨_, .lst (SqL.of (s13 _ _ hrr)) (SqL.of g3) rfl (by show 2 ≤ 200000; decide) fun H' e i x y hx hy => ?_⟩, fun H' _ => q H'⟩
  have e0 := s13.trans e
  match i, hx, hy with
  | 0, hx, hy =>
    cases hx
    cases hy
    exact sm_two (SqT.of (e0 _ _ h1)) (SqT.of (e _ _ g1)) (fun _ _ => sm_str) fun H2 e2 => (hv.ext (LamX.ExtN.of (e0.trans e2))).sm
  | 1, hx, hy =>
    cases hx
    cases hy
    exact sm_two (SqT.of (e0 _ _ h2)) (SqT.of (e _ _ g2)) (fun _ _ => sm_str) fun H2 e2 => (hbu.ext (LamX.ExtN.of (e0.trans e2))).sm
  | i + 2, hx, _ => exact absurd hx (by simp)
end

theorem tabs_put {T : List (Addr × Str)} {H : Hp} {r : Addr} {xs ys : List V} (h : LamX.Tabs T H) (hr : H r = some (.lst xs)) : LamX.Tabs T (upd H r (.lst ys)) := fun p hp => by
  obtain ⟨ps, h1, h2, h3⟩ := h p hp
  refine ⟨ps, ?_, h2, fun pos cv e => ?_⟩
  · have : p.1 ≠ r := fun z => by rw [z, hr] at h1; cases h1
    rw [upd_ne this]
    exact h1
  · obtain ⟨c, e1, e2⟩ := h3 pos cv e
    have : c ≠ r := fun z => by rw [z, hr] at e2; cases e2
    exact ⟨c, e1, by rw [upd_ne this]; exact e2⟩
def spLaw (K : PySem.W.Frag) (T : List (Addr × Str)) : Sp := fun vs H Q _ => ∃ (sc : Addr) (ns : List Int), vs = [.ref sc] ∧ SqL K H sc (ns.map V.int) ∧ LamX.Tabs T H ∧ ∀ H', Q (.bl true) H'
theorem ok_law {P : Program} {w : World} {K : PySem.W.Frag} {mg : Str → Option Value} {base : Heap} {C CN CC CT f c tb : Addr} {fd : FuncData} {T' : List (Addr × Str)} (F : FunC K "law" sLaw c f fd) (L : TL P w K mg base C CN CC CT) (TB : LamX.TabB base mg c tb) (hmT : (tb, qLaw) ∈ T') (hu : ∀ p ∈ T', p.1 = tb → p.2 = qLaw) :
    FnOk P w K mg base (L2.CX P w) 16 f fd ["script"] (spLaw K T') := by
  refine F.okX scLaw (fun vs H Q E h => ?_) (fun A outer s H vs Q E hr h => ?_)
  · obtain ⟨sc, ns, rfl, _⟩ := h
    rfl
  · obtain ⟨sc, ns, rfl, hs, hT, q⟩ := h
    obtain ⟨t0, h0, q0⟩ := st0 (E := E) (A := A) (outer := outer) (s := s) (H0 := H) (f := f) (c := c) L hr
    obtain ⟨t1, h1, q1⟩ := st1 (E := E) (A := A) (outer := outer) (s := s) (H0 := H) (f := f) (c := c) L hr
    obtain ⟨t2, h2, q2⟩ := st2 (T' := T') (E := E) (A := A) (outer := outer) (s := s) (H0 := H) (f := f) (c := c) L hr
    obtain ⟨t3, h3, q3⟩ := st3 (E := E) (A := A) (outer := outer) (s := s) (H0 := H) (f := f) (c := c) L hr
    obtain ⟨t4, h4, q4⟩ := st4 (E := E) (A := A) (outer := outer) (s := s) (H0 := H) (f := f) (c := c) L hr
    obtain ⟨t5, h5, q5⟩ := st5 (E := E) (A := A) (outer := outer) (s := s) (H0 := H) (f := f) (c := c) L TB hmT hu hr
    obtain ⟨t6, h6, q6⟩ := st6 (T' := T') (E := E) (A := A) (outer := outer) (s := s) (H0 := H) (f := f) (c := c) L hr
    obtain ⟨t7, h7, q7⟩ := st7 (T' := T') (E := E) (A := A) (outer := outer) (s := s) (H0 := H) (f := f) (c := c) L hr
    obtain ⟨t8, h8, q8⟩ := st8 (T' := T') (E := E) (A := A) (outer := outer) (s := s) (H0 := H) (f := f) (c := c) L hr
    obtain ⟨t9, h9, q9⟩ := st9 (E := E) (A := A) (outer := outer) (s := s) (H0 := H) (f := f) (c := c) L TB hmT hu hr
    obtain ⟨t10, h10, q10⟩ := st10 (E := E) (A := A) (outer := outer) (s := s) (H0 := H) (f := f) (c := c) L TB hmT hu hr
    obtain ⟨t11, h11, q11⟩ := st11 (E := E) (A := A) (outer := outer) (s := s) (H0 := H) (f := f) (c := c) L hr
    refine ⟨_, pss_cons h0 (pss_cons h1 (pss_cons h2 (pss_cons h3 (pss_cons h4 (pss_cons h5 (pss_cons h6 (pss_cons h7 (pss_cons h8 (pss_cons h9 (pss_cons h10 (pss_one h11))))))))))), ?_⟩
    refine q0 _ H sc ns _ _ _ _ _ _ _ _ _ _ _ _ hs fun H1 d out s1 hd dr => ?_
    refine q1 _ H1 sc d ns out _ _ _ _ _ _ _ _ _ _ _ (sqL_same s1 hs) hd dr fun H2 l ys rs s2 hl hrs hS l13 => ?_
    have lf : Lf out rs := ⟨dr, hS, l13⟩
    refine q2 _ H2 sc d l out ys rs _ _ _ _ _ _ _ _ _ _ (hT.ext (s1.trans s2)) (s2 _ _ hd) hl hrs hS fun H3 lo lb x _ lw3 => ?_
    refine q3 _ H3 sc d out _ _ _ _ _ _ _ _ _ _ _ lw3.draws dr fun H4 p s4 hp => ?_
    have lw4 := lw3.same s4
    refine q4 _ H4 sc d lo lb out rs _ _ _ _ _ _ _ _ _ lw4.draws dr lw4.outs lw4.brs l13 fun H5 so ks s5 hso chs => ?_
    have lw5 := lw4.same s5
    refine q5 _ H5 sc d l lo lb x so out rs ks p _ _ _ _ _ lw5 lf hp hso chs fun H6 o6 o9 _ lw6 => ?_
    refine q6 _ H6 sc d l lo lb x out rs p _ _ _ _ _ _ lw6 lf hp fun H7 s7 => ?_
    have lw7 := lw6.same s7
    refine q7 _ H7 sc d l lo lb x out rs p _ _ _ _ _ _ lw7 lf hp fun H8 s8 => ?_
    have lw8 := lw7.same s8
    refine q8 _ H8 sc d l lo lb x out rs _ _ _ _ _ _ _ lw8 lf fun H9 v u s9 hv hbu => ?_
    have lw9 := lw8.same s9
    refine q9 _ H9 sc x rs v u p _ _ _ _ _ _ _ _ lw9.tabs lw9.dr hv fun H10 r t1 e10 T10 hr10 g1 => ?_
    have hdr10 := draft_ext e10 lw9.dr
    refine q10 _ H10 sc x r t1 rs v u p _ _ _ _ _ _ _ T10 hdr10 hp (hbu.ext e10) hr10 fun H11 t2 e11 T11 g2 hr11 => ?_
    have g1' := e11 _ _ g1 (by intro x z; cases z)
    have n1 : t1 ≠ r := fun z => by rw [z, hr11] at g1'; cases g1'
    have n2 : t2 ≠ r := fun z => by rw [z, hr11] at g2; cases g2
    exact q11 _ _ _ sc r t1 t2 v u _ _ _ _ _ _ _ _ _ _ upd_same (by rw [upd_ne n1]; exact g1') (by rw [upd_ne n2]; exact g2) ((hv.ext (e10.trans e11)).put hr11) ((hbu.ext (e10.trans e11)).put hr11) q

/-! ### the errors' __init__ -/
abbrev sIniN : Stmt := inClass (topS 5) 0
abbrev sIniC : Stmt := inClass (topS 7) 0
abbrev sIniT : Stmt := inClass (topS 10) 0
theorem scIniN : FnScope ["self", "name"] ["self", "name"] (defScope sIniN) := ⟨rfl, rfl, rfl, by decide +kernel, rfl, by decide +kernel, by decide +kernel⟩
theorem scIniC : FnScope ["self", "thing"] ["self", "thing"] (defScope sIniC) := ⟨rfl, rfl, rfl, by decide +kernel, rfl, by decide +kernel, by decide +kernel⟩
theorem scIniT : FnScope ["self", "index"] ["self", "index"] (defScope sIniT) := ⟨rfl, rfl, rfl, by decide +kernel, rfl, by decide +kernel, by decide +kernel⟩
section
variable {P : Program} {w : World} {K : PySem.W.Frag} {mg : Str → Option Value} {base : Heap}
theorem ok_iniN {f C : Addr} {fd : FuncData} (F : Fun K "__init__" "NoName.__init__" sIniN f fd) (T : OexC K C) (no : PySem.W.findIn K (.ref C) "name" = some none) : FnOk P w K mg base CX0 1 f fd ["self", "name"] (spErrInit K C "name") := by
  refine F.ok scIniN (fun vs H Q E h => ?_) (fun cdv A outer s H vs Q E hr h => ?_)
  · obtain ⟨a, y, rfl, _⟩ := h
    rfl
  · obtain ⟨a, y, rfl, ha, q⟩ := h
    exact ⟨_, pss_one (ps_ost (pv 0) (pv 1)), _, rfl, _, rfl, a, C, rfl, T, no, .inl ⟨ha, q⟩⟩
theorem ok_iniC {f C : Addr} {fd : FuncData} (F : Fun K "__init__" "BadChoice.__init__" sIniC f fd) (T : OexC K C) (no : PySem.W.findIn K (.ref C) "thing" = some none) : FnOk P w K mg base CX0 1 f fd ["self", "thing"] (spErrInit K C "thing") := by
  refine F.ok scIniC (fun vs H Q E h => ?_) (fun cdv A outer s H vs Q E hr h => ?_)
  · obtain ⟨a, y, rfl, _⟩ := h
    rfl
  · obtain ⟨a, y, rfl, ha, q⟩ := h
    exact ⟨_, pss_one (ps_ost (pv 0) (pv 1)), _, rfl, _, rfl, a, C, rfl, T, no, .inl ⟨ha, q⟩⟩
theorem ok_iniT {f C : Addr} {fd : FuncData} (F : Fun K "__init__" "TooLong.__init__" sIniT f fd) (T : OexC K C) (no : PySem.W.findIn K (.ref C) "index" = some none) : FnOk P w K mg base CX0 1 f fd ["self", "index"] (spErrInit K C "index") := by
  refine F.ok scIniT (fun vs H Q E h => ?_) (fun cdv A outer s H vs Q E hr h => ?_)
  · obtain ⟨a, y, rfl, _⟩ := h
    rfl
  · obtain ⟨a, y, rfl, ha, q⟩ := h
    exact ⟨_, pss_one (ps_ost (pv 0) (pv 1)), _, rfl, _, rfl, a, C, rfl, T, no, .inl ⟨ha, q⟩⟩
end

/-! ### the head: what the top leaves -/
def dd (x : Str) (i : Nat) : He.DefD := ⟨(x, none), x, x, defArgs (topS i), defBody (topS i), defScope (topS i), [], []⟩
def fns : List He.DefD := [dd "is_integer" 13, dd "is_row" 14, dd "is_row_of" 15, dd "is_name" 16, dd "read_unknown" 19, dd "order_of" 20, dd "one_form" 21, dd "read_sum" 22, dd "sum_of" 23, dd "sum_at" 24, dd "with_times" 25, dd "plus" 26, dd "with_worths" 27, dd "is_up_to" 29, dd "read_words" 37, dd "read_branch" 38, dd "read_row" 39, dd "read_rows" 40, dd "length_of" 41, dd "measured" 42, dd "labels_in" 43, dd "is_too_long" 44, dd "words_of_row" 45, dd "meanings_of" 46, dd "way_in" 48, dd "too_long_ones" 49, dd "is_ascending" 50, dd "_law_row" 53, dd "_law_cell" 54, dd "_law_same" 55, dd "_law_draft" 56, dd "_law_branches" 57, dd "_law_spots" 58, dd "_law_outs" 59, dd "_law_begins" 60, dd "_law_ways" 61, dd "_law_long" 62, dd "_law_grown" 63, dd "_law_met" 64, dd "_law_some_sum" 65, dd "_law_with_sums" 66, dd "_law_told_sum" 67, dd "_law_put_in" 68, dd "_law_coded" 69, dd "law" 70, ⟨("NoName", some "__init__"), "__init__", "NoName.__init__", defArgs sIniN, defBody sIniN, defScope sIniN, [], []⟩, ⟨("BadChoice", some "__init__"), "__init__", "BadChoice.__init__", defArgs sIniC, defBody sIniC, defScope sIniC, [], []⟩, ⟨("TooLong", some "__init__"), "__init__", "TooLong.__init__", defArgs sIniT, defBody sIniT, defScope sIniT, [], []⟩, ⟨("Draft", some "__init__"), "__init__", "Draft.__init__", defArgs sInit, defBody sInit, defScope sInit, [], []⟩, ⟨("Draft", some "chosen"), "chosen", "Draft.chosen", defArgs sChosen, defBody sChosen, defScope sChosen, [], []⟩, ⟨("Draft", some "coded_words"), "coded_words", "Draft.coded_words", defArgs sCW, defBody sCW, defScope sCW, [], []⟩, ⟨("coded", none), "coded", "coded", defArgs (topS 30), defBody (topS 30), defScope (topS 30), [.int 0, .int 0, .int 0], []⟩]
def fas : List He.Fa := [.glo "is_integer", .glo "is_row", .glo "is_row_of", .glo "is_name", .glo "read_unknown", .glo "order_of", .glo "one_form", .glo "read_sum", .glo "sum_of", .glo "sum_at", .glo "with_times", .glo "plus", .glo "with_worths", .glo "is_up_to", .glo "read_words", .glo "read_branch", .glo "read_row", .glo "read_rows", .glo "length_of", .glo "measured", .glo "labels_in", .glo "is_too_long", .glo "words_of_row", .glo "meanings_of", .glo "way_in", .glo "too_long_ones", .glo "is_ascending", .glo "_law_row", .glo "_law_cell", .glo "_law_same", .glo "_law_draft", .glo "_law_branches", .glo "_law_spots", .glo "_law_outs", .glo "_law_begins", .glo "_law_ways", .glo "_law_long", .glo "_law_grown", .glo "_law_met", .glo "_law_some_sum", .glo "_law_with_sums", .glo "_law_told_sum", .glo "_law_put_in", .glo "_law_coded", .glo "law", .glo "NoName", .glo "BadChoice", .glo "TooLong", .glo "Draft", .glo "RANKS", .glo "NEAR_CODES", .glo "FAR_CODES", .glo "coded", .free "len", .free "int", .free "str", .free "bool", .free "list", .free "tuple", .free "isinstance", .free "all", .free "sorted", .free "range", .free "enumerate", .free "zip", .free "dict", .free "min", .free "set", .str "LETTERS" lettersS, .int "LOWEST" (-256), .int "HIGHEST" 255, .int "FILLER" 9, .exm "NoName" "NoName" true, .noat "NoName" "name", .meth "NoName" "__init__", .exm "BadChoice" "BadChoice" true, .noat "BadChoice" "thing", .meth "BadChoice" "__init__", .exm "TooLong" "TooLong" true, .noat "TooLong" "index", .meth "TooLong" "__init__", .exm "BadChoice" "NoName" false, .exm "TooLong" "NoName" false, .exm "TooLong" "BadChoice" false, .meth "Draft" "__init__", .meth "Draft" "chosen", .meth "Draft" "coded_words", .noat "Draft" "parts", .noat "Draft" "forks", .noat "Draft" "aims", .noat "Draft" "outs", .cls "Draft", .mkr "Draft"]
def tabs : List He.Tab := [(fun K => He.ga K "RANKS", ["piece", "name", "in"]), (fun K => He.ga K "NEAR_CODES", ["ask", "go", "call"]), (fun K => He.ga K "FAR_CODES", ["ask", "go", "call"])]
def tfs : List He.Defn := [("law", none)]
/-- an own error class over ValueError -/
def oexB (K : PySem.W.Frag) (C : Addr) : Bool := (match K.lookup C with
  | some ⟨.type c, _, .cls z, sl⟩ => decide (c = "type") && (match z.mro, sl.toList with
    | .ref C1 :: m1, [_, _, _, _, some (.builtin b1), _] => decide (C1 = C) && (decide (b1 = "ValueError.__new__") && (!z.hasDel && (z.hasDict && PySem.HandSPX.refsVE m1)))
    | _, _ => false)
  | _ => false) && (He.eqO (PySem.W.findIn K (.ref C) "__setattr__") (some (some (.builtin "object.__setattr__"))) && (decide (PySem.W.subIn K (.ref C) (.type "BaseException") = some true) && (decide (PySem.W.typeIn K (.ref C) = some (.type "type")) && PySem.W.keepIn K (.ref C))))
def ranksL : List (Str × He.Dv) := [("piece", .int 0), ("name", .int 1), ("in", .int 2)]
def nearV : List (Str × He.Dv) := [("ask", .int 3), ("go", .int 5), ("call", .int 14)]
def farV : List (Str × He.Dv) := [("ask", .int 4), ("go", .int 6), ("call", .int 15)]
def exs (K : PySem.W.Frag) : Bool := oexB K (He.ga K "NoName") && (xfB K (He.ga K "NoName") && (oexB K (He.ga K "BadChoice") && (xfB K (He.ga K "BadChoice") && (oexB K (He.ga K "TooLong") && (xfB K (He.ga K "TooLong") && (He.valsB K (He.ga K "RANKS") ranksL && (He.valsB K (He.ga K "NEAR_CODES") nearV && (He.valsB K (He.ga K "FAR_CODES") farV))))))))
abbrev RR : PySem.W.OpenRow := PySem.W.OpenLaw.row PySem.Challenge.rw_loadanywhere_k58_coded_words
abbrev hkk : PySem.W.Hook := He.hookX 5 fas fns tabs tfs exs
def obb (s : PySem.W.SharedT) : He.AlX := He.obsX 5 fas fns tabs tfs exs (HandSHeadRun.getT s)
theorem obb_eq (s : PySem.W.SharedT) : obb s = hkk.obs s.abs := He.obsX_eq (HandSHeadRun.getT_eq s)
abbrev loosL : List Str := (["_wall", "WordError", "BadSum", "BadField", "NoName", "BadDraft", "BadChoice", "NoBranch", "BadAt", "TooLong", "LETTERS", "is_integer", "is_row", "is_row_of", "is_name", "RANKS", "read_unknown", "order_of", "one_form", "read_sum", "sum_of", "sum_at", "with_times", "plus", "with_worths", "is_up_to", "coded", "NEAR_CODES", "FAR_CODES", "LOWEST"] : List Str) ++ (["HIGHEST", "FILLER", "read_words", "read_branch", "read_row", "read_rows", "length_of", "measured", "labels_in", "is_too_long", "words_of_row", "meanings_of", "way_in", "too_long_ones", "is_ascending", "Draft", "_law_row", "_law_cell", "_law_same", "_law_draft", "_law_branches", "_law_spots", "_law_outs", "_law_begins", "_law_ways", "_law_long", "_law_grown", "_law_met", "_law_some_sum", "_law_with_sums"] : List Str) ++ (["_law_told_sum", "_law_put_in", "_law_coded"] : List Str)
theorem run_false (w : World) : HandSHeadRun.RunEq RR (PySem.W.view RR.prog [70]) hkk obb 6000 loosL (w.withFollow "special-get-raises" false) := by
  intro os
  kernel_rfl
theorem run_true (w : World) : HandSHeadRun.RunEq RR (PySem.W.view RR.prog [70]) hkk obb 6000 loosL (w.withFollow "special-get-raises" true) := by
  intro os
  kernel_rfl
theorem runL (w : World) : HandSHeadRun.RunEq RR (PySem.W.view RR.prog [70]) hkk obb 6000 loosL w :=
  PySem.W.byRow2 "special-get-raises" (P := fun w => HandSHeadRun.RunEq RR (PySem.W.view RR.prog [70]) hkk obb 6000 loosL w) run_false run_true w

/-! ### the facts -/
theorem bb {a b : Bool} (h : (a && b) = true) : a = true ∧ b = true := by simpa using h
theorem oexB_ok {K : PySem.W.Frag} {C : Addr} (h : oexB K C = true) : OexC K C := by
  unfold oexB at h
  obtain ⟨h1, h⟩ := bb h
  obtain ⟨h2, h⟩ := bb h
  obtain ⟨h3, h⟩ := bb h
  obtain ⟨h4, h5⟩ := bb h
  refine ⟨?_, He.eqO_ok h2, of_decide_eq_true h3, of_decide_eq_true h4, h5⟩
  split at h1
  · rename_i cn od z sl hl
    obtain ⟨h6, h7⟩ := bb h1
    obtain rfl := of_decide_eq_true h6
    split at h7
    · rename_i C1 m1 k0 k1 k2 k3 b1 k5 hm hs
      obtain ⟨h8, h7⟩ := bb h7
      obtain ⟨h9, h7⟩ := bb h7
      obtain ⟨ha, h7⟩ := bb h7
      obtain ⟨hb, hc⟩ := bb h7
      obtain rfl := of_decide_eq_true h8
      obtain rfl := of_decide_eq_true h9
      obtain ⟨z1, z2, z3, z4, z5, z6, z7, z8, z9, za, zb⟩ := z
      dsimp only at hm ha hb
      subst hm
      have ha2 : zb = false := by simpa using ha
      subst ha2
      subst hb
      have hsl : sl = #[k0, k1, k2, k3, some (.builtin "ValueError.__new__"), k5] := by
        obtain ⟨l⟩ := sl
        simp only at hs
        rw [hs]
      rw [hsl] at hl
      exact ⟨_, _, _, _, _, _, _, _, _, _, _, _, _, _, _, hl, hc⟩
    · cases h7
  · cases h1
theorem fun_of {K : PySem.W.Frag} {x q : Str} {st : Stmt} {f : Addr} {fd : FuncData} (F : FunD K x q (defArgs st) (defBody st) (defScope st) [] [] f fd) : Fun K x q st f fd := by
  obtain ⟨oc, od, dV, kV, doc, pm, an, cdv, ct, osl, e, lk, hc, hD, hK⟩ := F.ex
  rcases hD with ⟨_, rfl⟩ | ⟨z, _⟩
  · exact ⟨⟨oc, od, kV, doc, pm, an, cdv, ct, osl, e, lk, hc⟩, F.kp⟩
  · exact absurd rfl z
theorem funC_of {K : PySem.W.Frag} {x : Str} {st : Stmt} {p : Str × Option Str} {fd : FuncData} (F : FunD K x x (defArgs st) (defBody st) (defScope st) [] [] (He.fAd K p) fd) : FunC K x st (He.cT K p).1 (He.fAd K p) fd := by
  obtain ⟨oc, od, dV, kV, doc, pm, an, cdv, ct, osl, e, lk, hc, hD, hK⟩ := F.ex
  rcases hD with ⟨_, rfl⟩ | ⟨z, _⟩
  · obtain ⟨c, rfl⟩ := He.codeIn_ref hc
    have ec : (He.cT K p).1 = c := He.codeOf_eq lk (by rw [e])
    rw [ec]
    exact ⟨⟨oc, od, kV, doc, pm, an, ct, osl, e, lk, hc⟩, F.kp⟩
  · exact absurd rfl z
theorem has_of {P : Program} {w : World} {K : PySem.W.Frag} {mg : Str → Option Value} {base : Heap} {CX : CXT} {k : Nat} {x : Str} {ps : List Str} {sp : Sp} {f : Addr} {fd : FuncData} (g : mg x = some (.ref f)) (kp : PySem.W.keepIn K (.ref f) = true) (b : Binds K fd ps []) (o : FnOk P w K mg base CX k f fd ps sp) : Has P w K mg base CX k x ps sp :=
  ⟨⟨f, fd, g, kp, b, o⟩⟩
theorem keys_find {P : Params} {z : Str} : ∀ {l : List DictEntry} {ks : List Str}, l.map He.keyOf = He.keysIn P ks → z ∉ ks → l.find? (·.key.isStr z) = none ∧ l.any (·.refKey) = false
  | [], _, _, _ => ⟨rfl, rfl⟩
  | e :: r, [], h, _ => by cases h
  | e :: r, k :: ks, h, hz => by
    have h1 : He.keyOf e :: r.map He.keyOf = some (k, PyData.keyHash P k) :: He.keysIn P ks := h
    injection h1 with h2 h3
    obtain ⟨i1, i2⟩ := keys_find h3 (fun m => hz (List.mem_cons_of_mem _ m))
    obtain ⟨eh, ek, ev⟩ := e
    unfold He.keyOf at h2
    dsimp only at h2
    cases ek with
    | str x t =>
      have h4 : (x, eh) = (k, PyData.keyHash P k) := Option.some.inj h2
      have h5 : x = k := congrArg Prod.fst h4
      subst h5
      have nz : (x == z) = false := by
        rw [beq_eq_false_iff_ne]
        intro q
        exact hz (by rw [← q]; exact List.mem_cons_self ..)
      constructor
      · rw [List.find?_cons]
        have e1 : Value.isStr (.str x t) z = false := nz
        show (match Value.isStr (.str x t) z with | true => some _ | false => r.find? _) = none
        rw [e1]
        exact i1
      · rw [List.any_cons, i2]
        rfl
    | _ => cases h2
theorem ns_no {K : PySem.W.Frag} {w : World} {a : Addr} {ks : List Str} (h : He.dicW K a = some (He.keysIn w.params ks)) {z : Str} (hz : z ∉ ks) : PySem.W.nsIn K a z = some none := by
  unfold He.dicW at h
  cases q : K.lookup a with
  | none => rw [q] at h; cases h
  | some o =>
    obtain ⟨oc, od, dt, osl⟩ := o
    rw [q] at h
    cases oc with
    | type c =>
      cases od with
      | none =>
        cases dt with
        | dict es n =>
          have h1 : (match decide (c = "dict") && (osl.isEmpty && !(a == sysModules)) with
            | true => some (es.toList.map He.keyOf)
            | false => none) = some (He.keysIn w.params ks) := h
          split at h1
          · obtain ⟨f1, f2⟩ := keys_find (Option.some.inj h1) hz
            unfold PySem.W.nsIn
            rw [q]
            dsimp only
            rw [f1, f2]
            rfl
          · cases h1
        | _ => cases h
      | some b => cases dt <;> cases h
    | _ => cases od <;> cases dt <;> cases h
theorem rank_some {z : Str} {i : Int} (h : rank z = some i) : (z, He.Dv.int i) ∈ ranksL := by
  unfold rank at h
  split at h
  · rename_i e; cases h; rw [e]; exact List.mem_cons_self ..
  · split at h
    · rename_i e; cases h; rw [e]; exact List.mem_cons_of_mem _ (List.mem_cons_self ..)
    · split at h
      · rename_i e; cases h; rw [e]; exact List.mem_cons_of_mem _ (List.mem_cons_of_mem _ (List.mem_cons_self ..))
      · cases h
theorem rank_none {z : Str} (h : rank z = none) : z ∉ (["piece", "name", "in"] : List Str) := by
  unfold rank at h
  split at h
  · cases h
  · split at h
    · cases h
    · split at h
      · cases h
      · rename_i a b c
        intro m
        rcases List.mem_cons.mp m with m | m
        · exact a m
        · rcases List.mem_cons.mp m with m | m
          · exact b m
          · exact c (List.mem_singleton.mp m)
section
variable {w : World} {K : PySem.W.Frag} {mg : Str → Option Value} {h : Heap}
theorem dics_of (c : He.SaysX fas fns tabs tfs exs w h K) : He.dicW K (He.ga K "RANKS") = some (He.keysIn w.params ["piece", "name", "in"]) ∧ He.dicW K (He.ga K "NEAR_CODES") = some (He.keysIn w.params ["ask", "go", "call"]) ∧ He.dicW K (He.ga K "FAR_CODES") = some (He.keysIn w.params ["ask", "go", "call"]) := by
  have e : tabs.map (fun t => He.dicW K (t.1 K)) = tabs.map fun t => some (He.keysIn w.params t.2) := congrArg (fun z : He.AlT => z.2) c.t
  have z : [He.dicW K (He.ga K "RANKS"), He.dicW K (He.ga K "NEAR_CODES"), He.dicW K (He.ga K "FAR_CODES")] = [some (He.keysIn w.params ["piece", "name", "in"]), some (He.keysIn w.params ["ask", "go", "call"]), some (He.keysIn w.params ["ask", "go", "call"])] := e
  injection z with z1 z
  injection z with z2 z
  injection z with z3 z
  exact ⟨z1, z2, z3⟩
theorem ranks_of (X : K.In h) (G : h.Ns mainGlobals mg) (c : He.SaysX fas fns tabs tfs exs w h K) (v : He.valsB K (He.ga K "RANKS") ranksL = true) : Ranks K w mg (He.ga K "RANKS") := by
  obtain ⟨e2, _, _⟩ := dics_of c
  refine ⟨He.glo_ok X G (c.t.d.fact 49 (f := .glo "RANKS") rfl), He.dicW_ok e2, fun z i hz => ?_, fun z hz => ns_no e2 (rank_none hz)⟩
  obtain ⟨u, h1, h2⟩ := He.valsB_ok v (rank_some hz)
  obtain ⟨t, rfl⟩ := (show ∃ t, u = Value.int i t from h2)
  exact ⟨t, h1⟩
theorem near_cases {z : Str} (hz : z ∈ nearL) : z = "ask" ∨ z = "go" ∨ z = "call" := by
  rcases List.mem_cons.mp hz with h | h
  · exact .inl h
  · rcases List.mem_cons.mp h with h | h
    · exact .inr (.inl h)
    · exact .inr (.inr (List.mem_singleton.mp h))
theorem near_in : ∀ z ∈ nearL, (z, He.Dv.int (nearC z)) ∈ nearV := by
  intro z hz
  rcases near_cases hz with rfl | rfl | rfl
  · exact List.mem_cons_self ..
  · exact List.mem_cons_of_mem _ (List.mem_cons_self ..)
  · exact List.mem_cons_of_mem _ (List.mem_cons_of_mem _ (List.mem_cons_self ..))
theorem far_in : ∀ z ∈ nearL, (z, He.Dv.int (farC z)) ∈ farV := by
  intro z hz
  rcases near_cases hz with rfl | rfl | rfl
  · exact List.mem_cons_self ..
  · exact List.mem_cons_of_mem _ (List.mem_cons_self ..)
  · exact List.mem_cons_of_mem _ (List.mem_cons_of_mem _ (List.mem_cons_self ..))
theorem codesN_of (X : K.In h) (G : h.Ns mainGlobals mg) (c : He.SaysX fas fns tabs tfs exs w h K) (v : He.valsB K (He.ga K "NEAR_CODES") nearV = true) : CodesD K w mg "NEAR_CODES" (He.ga K "NEAR_CODES") nearC := by
  obtain ⟨_, e2, _⟩ := dics_of c
  refine ⟨He.glo_ok X G (c.t.d.fact 50 (f := .glo "NEAR_CODES") rfl), He.dicW_ok e2, fun z hz => ?_⟩
  obtain ⟨u, h1, h2⟩ := He.valsB_ok v (near_in z hz)
  obtain ⟨t, rfl⟩ := (show ∃ t, u = Value.int (nearC z) t from h2)
  exact ⟨t, h1⟩
theorem codesF_of (X : K.In h) (G : h.Ns mainGlobals mg) (c : He.SaysX fas fns tabs tfs exs w h K) (v : He.valsB K (He.ga K "FAR_CODES") farV = true) : CodesD K w mg "FAR_CODES" (He.ga K "FAR_CODES") farC := by
  obtain ⟨_, _, e2⟩ := dics_of c
  refine ⟨He.glo_ok X G (c.t.d.fact 51 (f := .glo "FAR_CODES") rfl), He.dicW_ok e2, fun z hz => ?_⟩
  obtain ⟨u, h1, h2⟩ := He.valsB_ok v (far_in z hz)
  obtain ⟨t, rfl⟩ := (show ∃ t, u = Value.int (farC z) t from h2)
  exact ⟨t, h1⟩
theorem near_of {d : Addr} (N : CodesD K w mg "NEAR_CODES" d nearC) : Near K w mg d := ⟨N.g, N.kd, fun z hz => by
  obtain ⟨t, h⟩ := N.has z hz
  exact ⟨_, h⟩⟩
theorem bi_of (X : K.In h) (G : h.Ns mainGlobals mg) (c : He.SaysD fas fns K) : Bi mg :=
  ⟨He.free_ok X G (c.fact 53 (f := .free "len") rfl), He.free_ok X G (c.fact 54 (f := .free "int") rfl), He.free_ok X G (c.fact 55 (f := .free "str") rfl), He.free_ok X G (c.fact 56 (f := .free "bool") rfl), He.free_ok X G (c.fact 57 (f := .free "list") rfl), He.free_ok X G (c.fact 58 (f := .free "tuple") rfl), He.free_ok X G (c.fact 59 (f := .free "isinstance") rfl), He.free_ok X G (c.fact 60 (f := .free "all") rfl), He.free_ok X G (c.fact 61 (f := .free "sorted") rfl), He.free_ok X G (c.fact 62 (f := .free "range") rfl), He.free_ok X G (c.fact 63 (f := .free "enumerate") rfl), He.free_ok X G (c.fact 64 (f := .free "zip") rfl), He.free_ok X G (c.fact 65 (f := .free "dict") rfl), He.free_ok X G (c.fact 66 (f := .free "min") rfl), He.free_ok X G (c.fact 67 (f := .free "set") rfl)⟩
theorem coded_binds {f : Addr} {fd : FuncData} (F : FunD K "coded" "coded" (defArgs sCoded) (defBody sCoded) (defScope sCoded) [.int 0, .int 0, .int 0] [] f fd) : Binds K fd ["code", "x", "y", "d"] [] ∧ ∃ ds, Vals [.int 0, .int 0, .int 0] ds ∧ Binds K fd ["code", "x", "y", "d"] ds := by
  refine ⟨?_, ?_⟩
  · obtain ⟨ds, h1, h2⟩ := F.binds1 (ps := ["code", "x", "y", "d"]) 4 3 (by simp) rfl fun T kV doc pm an cdv ct us its e1 e2 => match us, its, e1, e2 with
      | [_, _, _, _], [_, _, _], _, _ => ⟨_, rfl, rfl⟩
    cases h1
    exact h2
  · exact F.binds1 (ps := ["code", "x", "y", "d"]) 1 0 (by simp) rfl fun T kV doc pm an cdv ct us its e1 e2 => match us, its, e1, e2 with
      | [_], [_, _, _], _, _ => ⟨_, rfl, rfl⟩
end
abbrev cL (K : PySem.W.Frag) : Addr × Addr := He.cT K ("law", none)
abbrev TT (K : PySem.W.Frag) : List (Addr × Str) := [((cL K).2, qLaw)]
theorem facts {P : Program} {w : World} {K : PySem.W.Frag} {mg : Str → Option Value} {h : Heap} (X : K.In h) (G : h.Ns mainGlobals mg) (c : He.SaysX fas fns tabs tfs exs w h K) :
    ∃ fd : FuncData, (∀ (s : Shared) (u : Value), BindsTo s fd ⟨[u], []⟩ [("script", u)]) ∧ ∀ base : Heap, K.In base → base.Ns mainGlobals mg → LamX.TabB base mg (cL K).1 (cL K).2 →
      FnOk P w K mg base (L2.CX P w) 16 (He.ga K "law") fd ["script"] (spLaw K (TT K)) := by
  obtain ⟨x1, hx⟩ := bb c.more
  obtain ⟨x2, hx⟩ := bb hx
  obtain ⟨x3, hx⟩ := bb hx
  obtain ⟨x4, hx⟩ := bb hx
  obtain ⟨x5, hx⟩ := bb hx
  obtain ⟨x6, hx⟩ := bb hx
  obtain ⟨x7, hx⟩ := bb hx
  obtain ⟨x8, x9⟩ := bb hx
  have T := bi_of X G c.t.d
  have R := ranks_of X G c x7
  have CN := codesN_of X G c x8
  have CF := codesF_of X G c x9
  have N := near_of CN
  obtain ⟨tLet, gLet⟩ := He.str_ok X G (c.t.d.fact 68 (f := .str "LETTERS" lettersS) rfl)
  obtain ⟨tLow, gLow⟩ := He.int_ok X G (c.t.d.fact 69 (f := .int "LOWEST" (-256)) rfl)
  obtain ⟨tHi, gHi⟩ := He.int_ok X G (c.t.d.fact 70 (f := .int "HIGHEST" 255) rfl)
  obtain ⟨tFi, gFi⟩ := He.int_ok X G (c.t.d.fact 71 (f := .int "FILLER" 9) rfl)
  have gN : mg "NoName" = some (.ref (He.ga K "NoName")) := He.glo_ok X G (c.t.d.fact 45 (f := .glo "NoName") rfl)
  have gC : mg "BadChoice" = some (.ref (He.ga K "BadChoice")) := He.glo_ok X G (c.t.d.fact 46 (f := .glo "BadChoice") rfl)
  have gT : mg "TooLong" = some (.ref (He.ga K "TooLong")) := He.glo_ok X G (c.t.d.fact 47 (f := .glo "TooLong") rfl)
  have gD : mg "Draft" = some (.ref (He.ga K "Draft")) := He.glo_ok X G (c.t.d.fact 48 (f := .glo "Draft") rfl)
  have gCo : mg "coded" = some (.ref (He.ga K "coded")) := He.glo_ok X G (c.t.d.fact 52 (f := .glo "coded") rfl)
  have eN := He.exm_ok (c.t.d.fact 72 (f := .exm "NoName" "NoName" true) rfl)
  have nN := He.noat_ok (c.t.d.fact 73 (f := .noat "NoName" "name") rfl)
  have mN := He.meth_ok (c.t.d.fact 74 (f := .meth "NoName" "__init__") rfl)
  have ON := oexB_ok x1
  have XN := xfB_ok x2
  have eC := He.exm_ok (c.t.d.fact 75 (f := .exm "BadChoice" "BadChoice" true) rfl)
  have nC := He.noat_ok (c.t.d.fact 76 (f := .noat "BadChoice" "thing") rfl)
  have mC := He.meth_ok (c.t.d.fact 77 (f := .meth "BadChoice" "__init__") rfl)
  have OC := oexB_ok x3
  have XC := xfB_ok x4
  have eT := He.exm_ok (c.t.d.fact 78 (f := .exm "TooLong" "TooLong" true) rfl)
  have nT := He.noat_ok (c.t.d.fact 79 (f := .noat "TooLong" "index") rfl)
  have mT := He.meth_ok (c.t.d.fact 80 (f := .meth "TooLong" "__init__") rfl)
  have OT := oexB_ok x5
  have XT := xfB_ok x6
  have oCN := He.exm_ok (c.t.d.fact 81 (f := .exm "BadChoice" "NoName" false) rfl)
  have oTN := He.exm_ok (c.t.d.fact 82 (f := .exm "TooLong" "NoName" false) rfl)
  have oTC := He.exm_ok (c.t.d.fact 83 (f := .exm "TooLong" "BadChoice" false) rfl)
  have CD := He.cls_ok (c.t.d.fact 91 (f := .cls "Draft") rfl)
  have KD := He.mkr_ok (c.t.d.fact 92 (f := .mkr "Draft") rfl)
  have B : DrC K (He.ga K "Draft") := ⟨CD, He.noat_ok (c.t.d.fact 87 (f := .noat "Draft" "parts") rfl), He.noat_ok (c.t.d.fact 88 (f := .noat "Draft" "forks") rfl), He.noat_ok (c.t.d.fact 89 (f := .noat "Draft" "aims") rfl), He.noat_ok (c.t.d.fact 90 (f := .noat "Draft" "outs") rfl)⟩
  obtain ⟨d0, D0⟩ := c.t.d.def_ 0 (d := dd "is_integer" 13) rfl
  have F0 : Fun K "is_integer" "is_integer" sIsInt (He.ga K "is_integer") d0 := fun_of D0
  have g0 : mg "is_integer" = some (.ref (He.ga K "is_integer")) := He.glo_ok X G (c.t.d.fact 0 (f := .glo "is_integer") rfl)
  have b0 : Binds K d0 ["thing"] [] := F0.binds fun _ _ _ _ _ _ us hl => match us, hl with | [_], _ => rfl
  obtain ⟨d1, D1⟩ := c.t.d.def_ 1 (d := dd "is_row" 14) rfl
  have F1 : Fun K "is_row" "is_row" sIsRow (He.ga K "is_row") d1 := fun_of D1
  have g1 : mg "is_row" = some (.ref (He.ga K "is_row")) := He.glo_ok X G (c.t.d.fact 1 (f := .glo "is_row") rfl)
  have b1 : Binds K d1 ["thing"] [] := F1.binds fun _ _ _ _ _ _ us hl => match us, hl with | [_], _ => rfl
  obtain ⟨d2, D2⟩ := c.t.d.def_ 2 (d := dd "is_row_of" 15) rfl
  have F2 : Fun K "is_row_of" "is_row_of" sIsRowOf (He.ga K "is_row_of") d2 := fun_of D2
  have g2 : mg "is_row_of" = some (.ref (He.ga K "is_row_of")) := He.glo_ok X G (c.t.d.fact 2 (f := .glo "is_row_of") rfl)
  have b2 : Binds K d2 ["thing", "many"] [] := F2.binds fun _ _ _ _ _ _ us hl => match us, hl with | [_, _], _ => rfl
  obtain ⟨d3, D3⟩ := c.t.d.def_ 3 (d := dd "is_name" 16) rfl
  have F3 : Fun K "is_name" "is_name" sIsName (He.ga K "is_name") d3 := fun_of D3
  have g3 : mg "is_name" = some (.ref (He.ga K "is_name")) := He.glo_ok X G (c.t.d.fact 3 (f := .glo "is_name") rfl)
  have b3 : Binds K d3 ["thing"] [] := F3.binds fun _ _ _ _ _ _ us hl => match us, hl with | [_], _ => rfl
  obtain ⟨d4, D4⟩ := c.t.d.def_ 4 (d := dd "read_unknown" 19) rfl
  have F4 : Fun K "read_unknown" "read_unknown" sReadUnk (He.ga K "read_unknown") d4 := fun_of D4
  have g4 : mg "read_unknown" = some (.ref (He.ga K "read_unknown")) := He.glo_ok X G (c.t.d.fact 4 (f := .glo "read_unknown") rfl)
  have b4 : Binds K d4 ["thing"] [] := F4.binds fun _ _ _ _ _ _ us hl => match us, hl with | [_], _ => rfl
  obtain ⟨d5, D5⟩ := c.t.d.def_ 5 (d := dd "order_of" 20) rfl
  have F5 : Fun K "order_of" "order_of" sOrderOf (He.ga K "order_of") d5 := fun_of D5
  have g5 : mg "order_of" = some (.ref (He.ga K "order_of")) := He.glo_ok X G (c.t.d.fact 5 (f := .glo "order_of") rfl)
  have b5 : Binds K d5 ["unknown"] [] := F5.binds fun _ _ _ _ _ _ us hl => match us, hl with | [_], _ => rfl
  obtain ⟨d6, D6⟩ := c.t.d.def_ 6 (d := dd "one_form" 21) rfl
  have F6 : Fun K "one_form" "one_form" sOneForm (He.ga K "one_form") d6 := fun_of D6
  have g6 : mg "one_form" = some (.ref (He.ga K "one_form")) := He.glo_ok X G (c.t.d.fact 6 (f := .glo "one_form") rfl)
  have b6 : Binds K d6 ["number", "multiples"] [] := F6.binds fun _ _ _ _ _ _ us hl => match us, hl with | [_, _], _ => rfl
  obtain ⟨d7, D7⟩ := c.t.d.def_ 7 (d := dd "read_sum" 22) rfl
  have F7 : Fun K "read_sum" "read_sum" sReadSum (He.ga K "read_sum") d7 := fun_of D7
  have g7 : mg "read_sum" = some (.ref (He.ga K "read_sum")) := He.glo_ok X G (c.t.d.fact 7 (f := .glo "read_sum") rfl)
  have b7 : Binds K d7 ["thing"] [] := F7.binds fun _ _ _ _ _ _ us hl => match us, hl with | [_], _ => rfl
  obtain ⟨d8, D8⟩ := c.t.d.def_ 8 (d := dd "sum_of" 23) rfl
  have F8 : Fun K "sum_of" "sum_of" sSumOf (He.ga K "sum_of") d8 := fun_of D8
  have g8 : mg "sum_of" = some (.ref (He.ga K "sum_of")) := He.glo_ok X G (c.t.d.fact 8 (f := .glo "sum_of") rfl)
  have b8 : Binds K d8 ["thing"] [] := F8.binds fun _ _ _ _ _ _ us hl => match us, hl with | [_], _ => rfl
  obtain ⟨d9, D9⟩ := c.t.d.def_ 9 (d := dd "sum_at" 24) rfl
  have F9 : Fun K "sum_at" "sum_at" sSumAt (He.ga K "sum_at") d9 := fun_of D9
  have g9 : mg "sum_at" = some (.ref (He.ga K "sum_at")) := He.glo_ok X G (c.t.d.fact 9 (f := .glo "sum_at") rfl)
  have b9 : Binds K d9 ["address"] [] := F9.binds fun _ _ _ _ _ _ us hl => match us, hl with | [_], _ => rfl
  obtain ⟨d10, D10⟩ := c.t.d.def_ 10 (d := dd "with_times" 25) rfl
  have F10 : Fun K "with_times" "with_times" sTimes (He.ga K "with_times") d10 := fun_of D10
  have g10 : mg "with_times" = some (.ref (He.ga K "with_times")) := He.glo_ok X G (c.t.d.fact 10 (f := .glo "with_times") rfl)
  have b10 : Binds K d10 ["one", "other", "many"] [] := F10.binds fun _ _ _ _ _ _ us hl => match us, hl with | [_, _, _], _ => rfl
  obtain ⟨d11, D11⟩ := c.t.d.def_ 11 (d := dd "plus" 26) rfl
  have F11 : Fun K "plus" "plus" sPlus (He.ga K "plus") d11 := fun_of D11
  have g11 : mg "plus" = some (.ref (He.ga K "plus")) := He.glo_ok X G (c.t.d.fact 11 (f := .glo "plus") rfl)
  have b11 : Binds K d11 ["one", "other"] [] := F11.binds fun _ _ _ _ _ _ us hl => match us, hl with | [_, _], _ => rfl
  obtain ⟨d12, D12⟩ := c.t.d.def_ 12 (d := dd "with_worths" 27) rfl
  have F12 : Fun K "with_worths" "with_worths" sWith (He.ga K "with_worths") d12 := fun_of D12
  have g12 : mg "with_worths" = some (.ref (He.ga K "with_worths")) := He.glo_ok X G (c.t.d.fact 12 (f := .glo "with_worths") rfl)
  have b12 : Binds K d12 ["one", "worths"] [] := F12.binds fun _ _ _ _ _ _ us hl => match us, hl with | [_, _], _ => rfl
  obtain ⟨d13, D13⟩ := c.t.d.def_ 13 (d := dd "is_up_to" 29) rfl
  have F13 : Fun K "is_up_to" "is_up_to" sUpTo (He.ga K "is_up_to") d13 := fun_of D13
  have g13 : mg "is_up_to" = some (.ref (He.ga K "is_up_to")) := He.glo_ok X G (c.t.d.fact 13 (f := .glo "is_up_to") rfl)
  have b13 : Binds K d13 ["thing", "most"] [] := F13.binds fun _ _ _ _ _ _ us hl => match us, hl with | [_, _], _ => rfl
  obtain ⟨d14, D14⟩ := c.t.d.def_ 14 (d := dd "read_words" 37) rfl
  have F14 : Fun K "read_words" "read_words" sReadWords (He.ga K "read_words") d14 := fun_of D14
  have g14 : mg "read_words" = some (.ref (He.ga K "read_words")) := He.glo_ok X G (c.t.d.fact 14 (f := .glo "read_words") rfl)
  have b14 : Binds K d14 ["thing"] [] := F14.binds fun _ _ _ _ _ _ us hl => match us, hl with | [_], _ => rfl
  obtain ⟨d15, D15⟩ := c.t.d.def_ 15 (d := dd "read_branch" 38) rfl
  have F15 : Fun K "read_branch" "read_branch" sReadBranch (He.ga K "read_branch") d15 := fun_of D15
  have g15 : mg "read_branch" = some (.ref (He.ga K "read_branch")) := He.glo_ok X G (c.t.d.fact 15 (f := .glo "read_branch") rfl)
  have b15 : Binds K d15 ["called", "n", "more"] [] := F15.binds fun _ _ _ _ _ _ us hl => match us, hl with | [_, _, _], _ => rfl
  obtain ⟨d16, D16⟩ := c.t.d.def_ 16 (d := dd "read_row" 39) rfl
  have F16 : Fun K "read_row" "read_row" sReadRow (He.ga K "read_row") d16 := fun_of D16
  have g16 : mg "read_row" = some (.ref (He.ga K "read_row")) := He.glo_ok X G (c.t.d.fact 16 (f := .glo "read_row") rfl)
  have b16 : Binds K d16 ["thing"] [] := F16.binds fun _ _ _ _ _ _ us hl => match us, hl with | [_], _ => rfl
  obtain ⟨d17, D17⟩ := c.t.d.def_ 17 (d := dd "read_rows" 40) rfl
  have F17 : Fun K "read_rows" "read_rows" sReadRows (He.ga K "read_rows") d17 := fun_of D17
  have g17 : mg "read_rows" = some (.ref (He.ga K "read_rows")) := He.glo_ok X G (c.t.d.fact 17 (f := .glo "read_rows") rfl)
  have b17 : Binds K d17 ["rows"] [] := F17.binds fun _ _ _ _ _ _ us hl => match us, hl with | [_], _ => rfl
  obtain ⟨d18, D18⟩ := c.t.d.def_ 18 (d := dd "length_of" 41) rfl
  have F18 : Fun K "length_of" "length_of" sLengthOf (He.ga K "length_of") d18 := fun_of D18
  have g18 : mg "length_of" = some (.ref (He.ga K "length_of")) := He.glo_ok X G (c.t.d.fact 18 (f := .glo "length_of") rfl)
  have b18 : Binds K d18 ["row", "begin", "is_far"] [] := F18.binds fun _ _ _ _ _ _ us hl => match us, hl with | [_, _, _], _ => rfl
  obtain ⟨d19, D19⟩ := c.t.d.def_ 19 (d := dd "measured" 42) rfl
  have F19 : Fun K "measured" "measured" sMeasured (He.ga K "measured") d19 := fun_of D19
  have g19 : mg "measured" = some (.ref (He.ga K "measured")) := He.glo_ok X G (c.t.d.fact 19 (f := .glo "measured") rfl)
  have b19 : Binds K d19 ["rows", "far"] [] := F19.binds fun _ _ _ _ _ _ us hl => match us, hl with | [_, _], _ => rfl
  obtain ⟨d20, D20⟩ := c.t.d.def_ 20 (d := dd "labels_in" 43) rfl
  have F20 : Fun K "labels_in" "labels_in" sLabelsIn (He.ga K "labels_in") d20 := fun_of D20
  have g20 : mg "labels_in" = some (.ref (He.ga K "labels_in")) := He.glo_ok X G (c.t.d.fact 20 (f := .glo "labels_in") rfl)
  have b20 : Binds K d20 ["rows"] [] := F20.binds fun _ _ _ _ _ _ us hl => match us, hl with | [_], _ => rfl
  obtain ⟨d21, D21⟩ := c.t.d.def_ 21 (d := dd "is_too_long" 44) rfl
  have F21 : Fun K "is_too_long" "is_too_long" sIsTooLong (He.ga K "is_too_long") d21 := fun_of D21
  have g21 : mg "is_too_long" = some (.ref (He.ga K "is_too_long")) := He.glo_ok X G (c.t.d.fact 21 (f := .glo "is_too_long") rfl)
  have b21 : Binds K d21 ["way"] [] := F21.binds fun _ _ _ _ _ _ us hl => match us, hl with | [_], _ => rfl
  obtain ⟨d22, D22⟩ := c.t.d.def_ 22 (d := dd "words_of_row" 45) rfl
  have F22 : Fun K "words_of_row" "words_of_row" sWords (He.ga K "words_of_row") d22 := fun_of D22
  have g22 : mg "words_of_row" = some (.ref (He.ga K "words_of_row")) := He.glo_ok X G (c.t.d.fact 22 (f := .glo "words_of_row") rfl)
  have b22 : Binds K d22 ["row", "index", "far", "offsets", "meanings"] [] := F22.binds fun _ _ _ _ _ _ us hl => match us, hl with | [_, _, _, _, _], _ => rfl
  obtain ⟨d23, D23⟩ := c.t.d.def_ 23 (d := dd "meanings_of" 46) rfl
  have F23 : Fun K "meanings_of" "meanings_of" sMeanings (He.ga K "meanings_of") d23 := fun_of D23
  have g23 : mg "meanings_of" = some (.ref (He.ga K "meanings_of")) := He.glo_ok X G (c.t.d.fact 23 (f := .glo "meanings_of") rfl)
  have b23 : Binds K d23 ["rows", "offsets", "p"] [] := F23.binds fun _ _ _ _ _ _ us hl => match us, hl with | [_, _, _], _ => rfl
  obtain ⟨d24, D24⟩ := c.t.d.def_ 24 (d := dd "way_in" 48) rfl
  have F24 : Fun K "way_in" "way_in" sWayIn (He.ga K "way_in") d24 := fun_of D24
  have g24 : mg "way_in" = some (.ref (He.ga K "way_in")) := He.glo_ok X G (c.t.d.fact 24 (f := .glo "way_in") rfl)
  have b24 : Binds K d24 ["aims", "offsets", "index"] [] := F24.binds fun _ _ _ _ _ _ us hl => match us, hl with | [_, _, _], _ => rfl
  obtain ⟨d25, D25⟩ := c.t.d.def_ 25 (d := dd "too_long_ones" 49) rfl
  have F25 : Fun K "too_long_ones" "too_long_ones" sTooLong (He.ga K "too_long_ones") d25 := fun_of D25
  have g25 : mg "too_long_ones" = some (.ref (He.ga K "too_long_ones")) := He.glo_ok X G (c.t.d.fact 25 (f := .glo "too_long_ones") rfl)
  have b25 : Binds K d25 ["parts", "aims", "far"] [] := F25.binds fun _ _ _ _ _ _ us hl => match us, hl with | [_, _, _], _ => rfl
  obtain ⟨d26, D26⟩ := c.t.d.def_ 26 (d := dd "is_ascending" 50) rfl
  have F26 : Fun K "is_ascending" "is_ascending" sAsc (He.ga K "is_ascending") d26 := fun_of D26
  have g26 : mg "is_ascending" = some (.ref (He.ga K "is_ascending")) := He.glo_ok X G (c.t.d.fact 26 (f := .glo "is_ascending") rfl)
  have b26 : Binds K d26 ["row"] [] := F26.binds fun _ _ _ _ _ _ us hl => match us, hl with | [_], _ => rfl
  obtain ⟨d27, D27⟩ := c.t.d.def_ 27 (d := dd "_law_row" 53) rfl
  have F27 : Fun K "_law_row" "_law_row" sLRow (He.ga K "_law_row") d27 := fun_of D27
  have g27 : mg "_law_row" = some (.ref (He.ga K "_law_row")) := He.glo_ok X G (c.t.d.fact 27 (f := .glo "_law_row") rfl)
  have b27 : Binds K d27 ["cell", "sizes"] [] := F27.binds fun _ _ _ _ _ _ us hl => match us, hl with | [_, _], _ => rfl
  obtain ⟨d28, D28⟩ := c.t.d.def_ 28 (d := dd "_law_cell" 54) rfl
  have F28 : Fun K "_law_cell" "_law_cell" sLCell (He.ga K "_law_cell") d28 := fun_of D28
  have g28 : mg "_law_cell" = some (.ref (He.ga K "_law_cell")) := He.glo_ok X G (c.t.d.fact 28 (f := .glo "_law_cell") rfl)
  have b28 : Binds K d28 ["script", "k"] [] := F28.binds fun _ _ _ _ _ _ us hl => match us, hl with | [_, _], _ => rfl
  obtain ⟨d29, D29⟩ := c.t.d.def_ 29 (d := dd "_law_same" 55) rfl
  have F29 : Fun K "_law_same" "_law_same" sSame (He.ga K "_law_same") d29 := fun_of D29
  have g29 : mg "_law_same" = some (.ref (He.ga K "_law_same")) := He.glo_ok X G (c.t.d.fact 29 (f := .glo "_law_same") rfl)
  have b29 : Binds K d29 ["found", "due"] [] := F29.binds fun _ _ _ _ _ _ us hl => match us, hl with | [_, _], _ => rfl
  obtain ⟨d30, D30⟩ := c.t.d.def_ 30 (d := dd "_law_draft" 56) rfl
  have F30 : Fun K "_law_draft" "_law_draft" sLDraft (He.ga K "_law_draft") d30 := fun_of D30
  have g30 : mg "_law_draft" = some (.ref (He.ga K "_law_draft")) := He.glo_ok X G (c.t.d.fact 30 (f := .glo "_law_draft") rfl)
  have b30 : Binds K d30 ["cell", "most", "is_even"] [] := F30.binds fun _ _ _ _ _ _ us hl => match us, hl with | [_, _, _], _ => rfl
  obtain ⟨d31, D31⟩ := c.t.d.def_ 31 (d := dd "_law_branches" 57) rfl
  have F31 : Fun K "_law_branches" "_law_branches" sLBr (He.ga K "_law_branches") d31 := fun_of D31
  have g31 : mg "_law_branches" = some (.ref (He.ga K "_law_branches")) := He.glo_ok X G (c.t.d.fact 31 (f := .glo "_law_branches") rfl)
  have b31 : Binds K d31 ["rows"] [] := F31.binds fun _ _ _ _ _ _ us hl => match us, hl with | [_], _ => rfl
  obtain ⟨d32, D32⟩ := c.t.d.def_ 32 (d := dd "_law_spots" 58) rfl
  have F32 : Fun K "_law_spots" "_law_spots" sLSp (He.ga K "_law_spots") d32 := fun_of D32
  have g32 : mg "_law_spots" = some (.ref (He.ga K "_law_spots")) := He.glo_ok X G (c.t.d.fact 32 (f := .glo "_law_spots") rfl)
  have b32 : Binds K d32 ["rows"] [] := F32.binds fun _ _ _ _ _ _ us hl => match us, hl with | [_], _ => rfl
  obtain ⟨d33, D33⟩ := c.t.d.def_ 33 (d := dd "_law_outs" 59) rfl
  have F33 : Fun K "_law_outs" "_law_outs" sLOu (He.ga K "_law_outs") d33 := fun_of D33
  have g33 : mg "_law_outs" = some (.ref (He.ga K "_law_outs")) := He.glo_ok X G (c.t.d.fact 33 (f := .glo "_law_outs") rfl)
  have b33 : Binds K d33 ["rows"] [] := F33.binds fun _ _ _ _ _ _ us hl => match us, hl with | [_], _ => rfl
  obtain ⟨d34, D34⟩ := c.t.d.def_ 34 (d := dd "_law_begins" 60) rfl
  have F34 : Fun K "_law_begins" "_law_begins" sLBe (He.ga K "_law_begins") d34 := fun_of D34
  have g34 : mg "_law_begins" = some (.ref (He.ga K "_law_begins")) := He.glo_ok X G (c.t.d.fact 34 (f := .glo "_law_begins") rfl)
  have b34 : Binds K d34 ["rows", "far"] [] := F34.binds fun _ _ _ _ _ _ us hl => match us, hl with | [_, _], _ => rfl
  obtain ⟨d35, D35⟩ := c.t.d.def_ 35 (d := dd "_law_ways" 61) rfl
  have F35 : Fun K "_law_ways" "_law_ways" sLWa (He.ga K "_law_ways") d35 := fun_of D35
  have g35 : mg "_law_ways" = some (.ref (He.ga K "_law_ways")) := He.glo_ok X G (c.t.d.fact 35 (f := .glo "_law_ways") rfl)
  have b35 : Binds K d35 ["rows", "far"] [] := F35.binds fun _ _ _ _ _ _ us hl => match us, hl with | [_, _], _ => rfl
  obtain ⟨d36, D36⟩ := c.t.d.def_ 36 (d := dd "_law_long" 62) rfl
  have F36 : Fun K "_law_long" "_law_long" sLLo (He.ga K "_law_long") d36 := fun_of D36
  have g36 : mg "_law_long" = some (.ref (He.ga K "_law_long")) := He.glo_ok X G (c.t.d.fact 36 (f := .glo "_law_long") rfl)
  have b36 : Binds K d36 ["rows", "far"] [] := F36.binds fun _ _ _ _ _ _ us hl => match us, hl with | [_, _], _ => rfl
  obtain ⟨d37, D37⟩ := c.t.d.def_ 37 (d := dd "_law_grown" 63) rfl
  have F37 : Fun K "_law_grown" "_law_grown" sLGr (He.ga K "_law_grown") d37 := fun_of D37
  have g37 : mg "_law_grown" = some (.ref (He.ga K "_law_grown")) := He.glo_ok X G (c.t.d.fact 37 (f := .glo "_law_grown") rfl)
  have b37 : Binds K d37 ["rows"] [] := F37.binds fun _ _ _ _ _ _ us hl => match us, hl with | [_], _ => rfl
  obtain ⟨d38, D38⟩ := c.t.d.def_ 38 (d := dd "_law_met" 64) rfl
  have F38 : Fun K "_law_met" "_law_met" sMet (He.ga K "_law_met") d38 := fun_of D38
  have g38 : mg "_law_met" = some (.ref (He.ga K "_law_met")) := He.glo_ok X G (c.t.d.fact 38 (f := .glo "_law_met") rfl)
  have b38 : Binds K d38 ["ask"] [] := F38.binds fun _ _ _ _ _ _ us hl => match us, hl with | [_], _ => rfl
  obtain ⟨d39, D39⟩ := c.t.d.def_ 39 (d := dd "_law_some_sum" 65) rfl
  have F39 : Fun K "_law_some_sum" "_law_some_sum" sSome (He.ga K "_law_some_sum") d39 := fun_of D39
  have g39 : mg "_law_some_sum" = some (.ref (He.ga K "_law_some_sum")) := He.glo_ok X G (c.t.d.fact 39 (f := .glo "_law_some_sum") rfl)
  have b39 : Binds K d39 ["draw", "k"] [] := F39.binds fun _ _ _ _ _ _ us hl => match us, hl with | [_, _], _ => rfl
  obtain ⟨d40, D40⟩ := c.t.d.def_ 40 (d := dd "_law_with_sums" 66) rfl
  have F40 : Fun K "_law_with_sums" "_law_with_sums" sWS (He.ga K "_law_with_sums") d40 := fun_of D40
  have g40 : mg "_law_with_sums" = some (.ref (He.ga K "_law_with_sums")) := He.glo_ok X G (c.t.d.fact 40 (f := .glo "_law_with_sums") rfl)
  have b40 : Binds K d40 ["rows", "draws"] [] := F40.binds fun _ _ _ _ _ _ us hl => match us, hl with | [_, _], _ => rfl
  obtain ⟨d41, D41⟩ := c.t.d.def_ 41 (d := dd "_law_told_sum" 67) rfl
  have F41 : Fun K "_law_told_sum" "_law_told_sum" sTold (He.ga K "_law_told_sum") d41 := fun_of D41
  have g41 : mg "_law_told_sum" = some (.ref (He.ga K "_law_told_sum")) := He.glo_ok X G (c.t.d.fact 41 (f := .glo "_law_told_sum") rfl)
  have b41 : Binds K d41 ["number", "factors"] [] := F41.binds fun _ _ _ _ _ _ us hl => match us, hl with | [_, _], _ => rfl
  obtain ⟨d42, D42⟩ := c.t.d.def_ 42 (d := dd "_law_put_in" 68) rfl
  have F42 : Fun K "_law_put_in" "_law_put_in" sPutIn (He.ga K "_law_put_in") d42 := fun_of D42
  have g42 : mg "_law_put_in" = some (.ref (He.ga K "_law_put_in")) := He.glo_ok X G (c.t.d.fact 42 (f := .glo "_law_put_in") rfl)
  have b42 : Binds K d42 ["one", "labels", "p"] [] := F42.binds fun _ _ _ _ _ _ us hl => match us, hl with | [_, _, _], _ => rfl
  obtain ⟨d43, D43⟩ := c.t.d.def_ 43 (d := dd "_law_coded" 69) rfl
  have F43 : Fun K "_law_coded" "_law_coded" sLCo (He.ga K "_law_coded") d43 := fun_of D43
  have g43 : mg "_law_coded" = some (.ref (He.ga K "_law_coded")) := He.glo_ok X G (c.t.d.fact 43 (f := .glo "_law_coded") rfl)
  have b43 : Binds K d43 ["rows", "far", "p"] [] := F43.binds fun _ _ _ _ _ _ us hl => match us, hl with | [_, _, _], _ => rfl
  obtain ⟨d44, D44⟩ := c.t.d.def_ 44 (d := dd "law" 70) rfl
  have F44 : Fun K "law" "law" sLaw (He.ga K "law") d44 := fun_of D44
  have g44 : mg "law" = some (.ref (He.ga K "law")) := He.glo_ok X G (c.t.d.fact 44 (f := .glo "law") rfl)
  have b44 : Binds K d44 ["script"] [] := F44.binds fun _ _ _ _ _ _ us hl => match us, hl with | [_], _ => rfl
  obtain ⟨dN, DN⟩ := c.t.d.def_ 45 (d := ⟨("NoName", some "__init__"), "__init__", "NoName.__init__", defArgs sIniN, defBody sIniN, defScope sIniN, [], []⟩) rfl
  have FN : Fun K "__init__" "NoName.__init__" sIniN (He.ma K (He.ga K "NoName") "__init__") dN := fun_of DN
  have bN : Binds K dN ["self", "name"] [] := FN.binds fun _ _ _ _ _ _ us hl => match us, hl with | [_, _], _ => rfl
  obtain ⟨dC, DC⟩ := c.t.d.def_ 46 (d := ⟨("BadChoice", some "__init__"), "__init__", "BadChoice.__init__", defArgs sIniC, defBody sIniC, defScope sIniC, [], []⟩) rfl
  have FC : Fun K "__init__" "BadChoice.__init__" sIniC (He.ma K (He.ga K "BadChoice") "__init__") dC := fun_of DC
  have bC : Binds K dC ["self", "thing"] [] := FC.binds fun _ _ _ _ _ _ us hl => match us, hl with | [_, _], _ => rfl
  obtain ⟨dT, DT⟩ := c.t.d.def_ 47 (d := ⟨("TooLong", some "__init__"), "__init__", "TooLong.__init__", defArgs sIniT, defBody sIniT, defScope sIniT, [], []⟩) rfl
  have FT : Fun K "__init__" "TooLong.__init__" sIniT (He.ma K (He.ga K "TooLong") "__init__") dT := fun_of DT
  have bT : Binds K dT ["self", "index"] [] := FT.binds fun _ _ _ _ _ _ us hl => match us, hl with | [_, _], _ => rfl
  obtain ⟨e0, E0⟩ := c.t.d.def_ 48 (d := ⟨("Draft", some "__init__"), "__init__", "Draft.__init__", defArgs sInit, defBody sInit, defScope sInit, [], []⟩) rfl
  have M0 : Fun K "__init__" "Draft.__init__" sInit (He.ma K (He.ga K "Draft") "__init__") e0 := fun_of E0
  have q0 : Binds K e0 ["self", "rows"] [] := M0.binds fun _ _ _ _ _ _ us hl => match us, hl with | [_, _], _ => rfl
  have a0 := He.meth_ok (c.t.d.fact 84 (f := .meth "Draft" "__init__") rfl)
  obtain ⟨e1, E1⟩ := c.t.d.def_ 49 (d := ⟨("Draft", some "chosen"), "chosen", "Draft.chosen", defArgs sChosen, defBody sChosen, defScope sChosen, [], []⟩) rfl
  have M1 : Fun K "chosen" "Draft.chosen" sChosen (He.ma K (He.ga K "Draft") "chosen") e1 := fun_of E1
  have q1 : Binds K e1 ["self", "thing"] [] := M1.binds fun _ _ _ _ _ _ us hl => match us, hl with | [_, _], _ => rfl
  have a1 := He.meth_ok (c.t.d.fact 85 (f := .meth "Draft" "chosen") rfl)
  obtain ⟨e2, E2⟩ := c.t.d.def_ 50 (d := ⟨("Draft", some "coded_words"), "coded_words", "Draft.coded_words", defArgs sCW, defBody sCW, defScope sCW, [], []⟩) rfl
  have M2 : Fun K "coded_words" "Draft.coded_words" sCW (He.ma K (He.ga K "Draft") "coded_words") e2 := fun_of E2
  have q2 : Binds K e2 ["self", "p", "choice"] [] := M2.binds fun _ _ _ _ _ _ us hl => match us, hl with | [_, _, _], _ => rfl
  have a2 := He.meth_ok (c.t.d.fact 86 (f := .meth "Draft" "coded_words") rfl)
  obtain ⟨dK, DK⟩ := c.t.d.def_ 51 (d := ⟨("coded", none), "coded", "coded", defArgs (topS 30), defBody (topS 30), defScope (topS 30), [.int 0, .int 0, .int 0], []⟩) rfl
  have DK2 : FunD K "coded" "coded" (defArgs sCoded) (defBody sCoded) (defScope sCoded) [.int 0, .int 0, .int 0] [] (He.ga K "coded") dK := DK
  obtain ⟨bK1, dsK, vK, bK2⟩ := coded_binds DK2
  have CFn : FunC K "law" sLaw (cL K).1 (He.ga K "law") d44 := funC_of (p := ("law", none)) D44
  refine ⟨d44, fun s u => ?_, fun base Xb Gb TL1 => ?_⟩
  · exact FunD.bindsA (ps := ["script"]) D44 (fun _ _ _ _ _ _ us hl => match us, hl with | [_], _ => rfl) s [u] rfl
  have EN : Err P w K mg base "NoName" (He.ga K "NoName") "name" := ⟨gN, ON, nN, XN, eN, ⟨_, dN, "name", mN.at_, eq_of_beq mN.fn, bN, ok_iniN FN ON nN⟩⟩
  have EC : Err P w K mg base "BadChoice" (He.ga K "BadChoice") "thing" := ⟨gC, OC, nC, XC, eC, ⟨_, dC, "thing", mC.at_, eq_of_beq mC.fn, bC, ok_iniC FC OC nC⟩⟩
  have ET : Err P w K mg base "TooLong" (He.ga K "TooLong") "index" := ⟨gT, OT, nT, XT, eT, ⟨_, dT, "index", mT.at_, eq_of_beq mT.fn, bT, ok_iniT FT OT nT⟩⟩
  have H0 := has_of (base := base) (P := P) (w := w) g0 D0.kp b0 (ok_isInt F0 T)
  have H1 := has_of (base := base) (P := P) (w := w) g1 D1.kp b1 (ok_isRow F1 T)
  have H2 := has_of (base := base) (P := P) (w := w) g2 D2.kp b2 (ok_isRowOf F2 T (H1.mono (by decide)))
  have H3 := has_of (base := base) (P := P) (w := w) g3 D3.kp b3 (ok_isName F3 T gLet)
  have H4 := has_of (base := base) (P := P) (w := w) g4 D4.kp b4 (ok_readUnk F4 T R (H2.mono (by decide)) (H0.mono (by decide)) (H3.mono (by decide)))
  have H6 := has_of (base := base) (P := P) (w := w) g6 D6.kp b6 (ok_oneForm F6 T R F5 g5)
  have H7 := has_of (base := base) (P := P) (w := w) g7 D7.kp b7 (ok_readSum F7 (H0.mono (by decide)) (H2.mono (by decide)) (H1.mono (by decide)) (H4.mono (by decide)) (H6.mono (by decide)))
  have H8 := has_of (base := base) (P := P) (w := w) g8 D8.kp b8 (ok_sumOf0 F8 (H7.mono (by decide)))
  have H9 := has_of (base := base) (P := P) (w := w) g9 D9.kp b9 (ok_sumAt F9)
  have H10 := has_of (base := base) (P := P) (w := w) g10 D10.kp b10 (ok_times F10 (H6.mono (by decide)))
  have H11 := has_of (base := base) (P := P) (w := w) g11 D11.kp b11 (ok_plus F11 (H8.mono (by decide)) (H10.mono (by decide)))
  have H12 := has_of (base := base) (P := P) (w := w) g12 D12.kp b12 (ok_with F12 (H6.mono (by decide)))
  have H13 := has_of (base := base) (P := P) (w := w) g13 D13.kp b13 (ok_upTo F13 (H0.mono (by decide)))
  have HK : Has P w K mg base CX0 3 "coded" ["code", "x", "y", "d"] spCoded0 := has_of (base := base) (P := P) (w := w) gCo DK.kp bK1 (ok_coded0 DK2 (H13.mono (by decide)) (H0.mono (by decide)))
  have HKD : HasD P w K mg base CX0 3 "coded" ["code", "x", "y", "d"] [.int 0, .int 0, .int 0] spCoded0 := ⟨⟨_, dK, dsK, gCo, DK.kp, vK, bK2, ok_coded0 DK2 (H13.mono (by decide)) (H0.mono (by decide))⟩⟩
  have H14 := has_of (base := base) (P := P) (w := w) g14 D14.kp b14 (ok_readWords F14 T (H1.mono (by decide)) (H7.mono (by decide)))
  have H15 := has_of (base := base) (P := P) (w := w) g15 D15.kp b15 (ok_readBranch F15 T N (H3.mono (by decide)) (H0.mono (by decide)))
  have H16 := has_of (base := base) (P := P) (w := w) g16 D16.kp b16 (ok_readRow F16 T (H1.mono (by decide)) (H3.mono (by decide)) (H0.mono (by decide)) (H15.mono (by decide)) (H14.mono (by decide)))
  have HR := has_of (base := base) (P := P) (w := w) g1 D1.kp b1 (ok_isRowR F1 T)
  have H17 := has_of (base := base) (P := P) (w := w) g17 D17.kp b17 (ok_readRows F17 T (HR.mono (by decide)) (H16.mono (by decide)))
  have H18 := has_of (base := base) (P := P) (w := w) g18 D18.kp b18 (ok_lengthOf F18 T)
  have H19 := has_of (base := base) (P := P) (w := w) g19 D19.kp b19 (ok_measured F19 T (H18.mono (by decide)))
  have H20 := has_of (base := base) (P := P) (w := w) g20 D20.kp b20 (ok_labelsIn F20 T)
  have H21 := has_of (base := base) (P := P) (w := w) g21 D21.kp b21 (ok_isTooLong F21 gLow gHi)
  have H24 := has_of (base := base) (P := P) (w := w) g24 D24.kp b24 (ok_wayIn F24)
  have H25 := has_of (base := base) (P := P) (w := w) g25 D25.kp b25 (ok_tooLong F25 (H19.mono (by decide)) (H21.mono (by decide)) (H24.mono (by decide)))
  have H26 := has_of (base := base) (P := P) (w := w) g26 D26.kp b26 (ok_asc F26 T)
  have H23 := has_of (base := base) (P := P) (w := w) g23 D23.kp b23 (ok_meanings F23 (H20.mono (by decide)) (H9.mono (by decide)))
  have H22 := has_of (base := base) (P := P) (w := w) g22 D22.kp b22 (ok_words F22 gFi CN CF (H12.mono (by decide)) (H11.mono (by decide)) (HKD.mono (by decide)) (HK.mono (by decide)))
  have H27 := has_of (base := base) (P := P) (w := w) g27 D27.kp b27 (ok_lrow F27 T)
  have H28 := has_of (base := base) (P := P) (w := w) g28 D28.kp b28 (ok_lcell F28 T)
  have H30 := has_of (base := base) (P := P) (w := w) g30 D30.kp b30 (ok_ldraft F30 T (H27.mono (by decide)))
  have H31 := has_of (base := base) (P := P) (w := w) g31 D31.kp b31 (ok_lbr F31 T)
  have H32 := has_of (base := base) (P := P) (w := w) g32 D32.kp b32 (ok_lsp F32 T)
  have H33 := has_of (base := base) (P := P) (w := w) g33 D33.kp b33 (ok_lou F33 T (H32.mono (by decide)) (H31.mono (by decide)))
  have H34 := has_of (base := base) (P := P) (w := w) g34 D34.kp b34 (ok_lbe F34 T)
  have H35 := has_of (base := base) (P := P) (w := w) g35 D35.kp b35 (ok_lwa F35 T (H34.mono (by decide)) (H32.mono (by decide)) (H31.mono (by decide)))
  have H36 := has_of (base := base) (P := P) (w := w) g36 D36.kp b36 (ok_llo F36 T (H35.mono (by decide)))
  have H37 := has_of (base := base) (P := P) (w := w) g37 D37.kp b37 (ok_lgr F37 T (H33.mono (by decide)) (H36.mono (by decide)))
  have H39 := has_of (base := base) (P := P) (w := w) g39 D39.kp b39 (ok_some F39)
  have H40 := has_of (base := base) (P := P) (w := w) g40 D40.kp b40 (ok_ws F40 T (H39.mono (by decide)))
  have H41 := has_of (base := base) (P := P) (w := w) g41 D41.kp b41 (ok_told F41 T)
  have H42 := has_of (base := base) (P := P) (w := w) g42 D42.kp b42 (ok_putIn F42 T (H41.mono (by decide)))
  have H43 := has_of (base := base) (P := P) (w := w) g43 D43.kp b43 (ok_lco F43 T (H34.mono (by decide)) (H35.mono (by decide)) (H32.mono (by decide)) (H42.mono (by decide)))
  have S0 := has_of (base := base) (P := P) (w := w) g29 D29.kp b29 (ok_same0 F29)
  have S1 := has_of (base := base) (P := P) (w := w) g29 D29.kp b29 (ok_same F29 T S0)
  have S2 := has_of (base := base) (P := P) (w := w) g29 D29.kp b29 (ok_same F29 T S1)
  have S3 := has_of (base := base) (P := P) (w := w) g29 D29.kp b29 (ok_same F29 T S2)
  have S4 := has_of (base := base) (P := P) (w := w) g29 D29.kp b29 (ok_same F29 T S3)
  have S5 := has_of (base := base) (P := P) (w := w) g29 D29.kp b29 (ok_same F29 T S4)
  have S6 := has_of (base := base) (P := P) (w := w) g29 D29.kp b29 (ok_same F29 T S5)
  have S7 := has_of (base := base) (P := P) (w := w) g29 D29.kp b29 (ok_same F29 T S6)
  have YC : HasM P w K mg base (L2.CX P w) 3 (He.ga K "Draft") "chosen" ["self", "thing"] (spChosen K (He.ga K "Draft") (He.ga K "BadChoice")) := ⟨⟨_, e1, a1, q1, ok_chosen M1 T B EC (H1.mono (by decide)) (H0.mono (by decide)) (H26.mono (by decide))⟩, CD⟩
  have YW : HasM P w K mg base (L2.CX P w) 11 (He.ga K "Draft") "coded_words" ["self", "p", "choice"] (spCW K (He.ga K "Draft") (He.ga K "NoName") (He.ga K "BadChoice") (He.ga K "TooLong")) := ⟨⟨_, e2, a2, q2, ok_cw M2 T B EN ET (H3.mono (by decide)) (YC.mono (by decide)) (H25.mono (by decide)) (H19.mono (by decide)) (H23.mono (by decide)) (H22.mono (by decide))⟩, CD⟩
  have MM : Met K mg (He.ga K "NoName") (He.ga K "BadChoice") (He.ga K "TooLong") := ⟨⟨_, d38, g38, F38⟩, ⟨gN, gC, gT, ⟨eN, XN, nN⟩, ⟨eC, XC, nC⟩, ⟨eT, XT, nT⟩, oCN, oTN, oTC⟩⟩
  have SS : ∀ n, n ≤ 7 → Has P w K mg base CX0 8 "_law_same" ["found", "due"] (spSame K n) := fun n hn => by
    match n, hn with
    | 0, _ => exact S0.mono (by decide)
    | 1, _ => exact S1.mono (by decide)
    | 2, _ => exact S2.mono (by decide)
    | 3, _ => exact S3.mono (by decide)
    | 4, _ => exact S4.mono (by decide)
    | 5, _ => exact S5.mono (by decide)
    | 6, _ => exact S6.mono (by decide)
    | 7, _ => exact S7.mono (by decide)
    | n + 8, h => exact absurd h (by omega)
  have LL : TL P w K mg base (He.ga K "Draft") (He.ga K "NoName") (He.ga K "BadChoice") (He.ga K "TooLong") := ⟨T, H28, H27, H30, H40, H33, H31, H37, H36, H43, SS, MM, B, gD, ⟨_, e0, KD, q0, ok_init M0 T B (H17.mono (by decide)) (H20.mono (by decide))⟩, YW⟩
  exact ok_law CFn LL TL1 (List.mem_cons_self ..) fun p hp _ => by rw [List.mem_singleton.mp hp]

end DR
open PySem PySem.W PySem.Calls PyProof.Rows
theorem PySem.Challenge.cw_loadanywhere_k58_coded_words_holds : PySem.Challenge.rw_loadanywhere_k58_coded_words.Holds := by
  w_on; o_law
  refine HandSHeadRun.head_any (r := DR.RR) (q := view DR.RR.prog [70]) (H := DR.hkk) (ob := DR.obb) (M := 6000) (loose := DR.loosL) (d := HandSHeadRun.topDef DR.RR.prog 70) (kwd := []) DR.obb_eq
    (by kernel_rfl) (fun s => by kernel_rfl) DR.runL (by kernel_rfl) (by kernel_rfl) (by kernel_rfl) (by rfl) (by first | assumption | decide +kernel) (by decide +kernel) ⟨rfl, rfl, rfl, rfl, rfl, by decide +kernel⟩ ?hw ?hc
  case hw => w_witness2
  case hc =>
    refine LamX.walk_ofTsE (l := PySem.Challenge.rw_loadanywhere_k58_coded_words) (n := 63) (k := 16) (x := "script") (CX := fun w => L2.CX PySem.Challenge.rw_loadanywhere_k58_coded_words.prog w) rfl (by decide) (by kernel_rfl) ⟨rfl, by decide, by decide⟩ ?F (fun _ _ _ _ _ z => by
      obtain ⟨_, _, _, _, _, _, _, _, _, _, _, _, y⟩ := z
      exact y.elim)
    intro w mg fa h Y G hmg0
    obtain ⟨K, KX, c⟩ := Y
    have hmg : mg ("law" : PySem.Str) = some (.ref fa) := by
      have e : (HandSHeadRun.topDef DR.RR.prog 70).name = ("law" : PySem.Str) := by kernel_rfl
      rw [← e]
      exact hmg0
    have gL := He.glo_ok KX G (c.t.d.fact 44 (f := .glo "law") rfl)
    have efa := hmg.symm.trans gL
    cases efa
    obtain ⟨fd, hb, hF⟩ := DR.facts (P := PySem.Challenge.rw_loadanywhere_k58_coded_words.prog) (w := w) KX G c
    refine ⟨K, KX, fd, [DR.cL K], DR.spLaw K (DR.TT K), ?_, ?_, ?_, hb, ?_, ?_⟩
    · intro p hp
      obtain rfl := List.mem_singleton.mp hp
      exact c.empty ("law", none) (List.mem_cons_self ..)
    · intro p hp
      obtain rfl := List.mem_singleton.mp hp
      exact c.out ("law", none) (List.mem_cons_self ..)
    · intro p hp
      obtain rfl := List.mem_singleton.mp hp
      exact codeHd_of_K KX (c.hd ("law", none) (List.mem_cons_self ..))
    · intro H a ns _ _ hT hS
      refine ⟨a, ns, rfl, hS, fun p hp => ?_, fun _ => rfl⟩
      obtain rfl := List.mem_singleton.mp hp
      exact LamX.TabS.nil (hT (DR.cL K) (List.mem_cons_self ..))
    · intro base Xb Gb hT
      exact hF base Xb Gb (hT _ (List.mem_cons_self ..))
