import PyProof.Rows.All
import Wide.All
import OpenK.AllK
import Wide.FinOn
import HandS.ForMost
import HandS.ForExc
import HandS.More
import HandS.Lambda
import HandS.Ends
import HandS.EndTab
import HandS.HeadWalk
import HandS.Deep
import PyProof.ReprRoads
import KE.DataEq
import KE.SortKeyHeap
import KE.SortData
import HandS.IsInst
import HandS.Walk
import HandS.Dict
import HandS.Style
import HandS.SortInts
import HandS.DictComp
import HandS.Zip
import HandS.TryOnly
import HandS.TupAny
import HandS.TupMul
import KE.GoesMore
import PySem.Challenge.RW_loadanywhere_k04_words_laid
import HandS.SortKw
import HandS.ExcInit
import HandS.ExcField
import HandS.Defaults
import HandS.Conv
import PyProof.FitsBits
import KE.IntBitsLaws
import HandS.List
import HandS.WordsExc
import KE.KDictPairs
import KE.KDictKeyed
import KE.KDictCopyH
import PyProof.ReprBulk
import PyProof.CallFns
import PyProof.RowDictHeap
import HandS.ListItems
import Wide.Once
import KE.KStateDown
import Lean
import HandS.Head0
import HandS.Head1
import HandS.Head2
import HandS.HeadHook1
import HandS.HeadHook2
import HandS.HeadHook3
import HandS.HeadHook4
set_option Elab.async false
set_option linter.all false
set_option maxRecDepth 100000
set_option maxHeartbeats 0
namespace GA
open PySem PySem.Spec PyProof.Rows L2
/-! ### the law's own call, told of the very caller: so what stands guarded is known -/
/-- what is known of the heap in which the law is called -/
structure Here (K : PySem.W.Frag) (mg : Str → Option Value) (s : Shared) (cs : List (Addr × Addr)) (a : Addr) (vs : List Value) (ns : List Int) : Prop where
  kin : K.In s.heap
  glob : s.heap.Ns mainGlobals mg
  blt : ∃ mb : Str → Option Value, s.heap.Ns builtinsNs mb ∧ ∀ x : Str, x ≠ "__name__" → mb x = bootBuiltins x
  lim : s.heap.NoLimit
  gens : s.gens = #[]
  tab : ∀ p ∈ cs, s.heap.get? p.2 = some { cls := .none, data := .fields #[] }
  out : ∀ p ∈ cs, K.lookup p.2 = none
  code : ∀ p ∈ cs, PySem.W.CodeHd s.heap p.1 p.2
  bm : ∃ (b : Addr) (o : Obj), mg "__builtins__" = some (.ref b) ∧ b ≠ builtinsNs ∧ s.heap.get? b = some o ∧ o.cls = .type "module" ∧ o.dict = some builtinsNs ∧ o.data = .plain
  obj : s.heap.get? a = some { cls := .type "list", data := .seq vs.toArray }
  nums : IntsAre vs ns
  few : ns.length ≤ sizeLine
section
variable {P : Program} {w : World} {K : PySem.W.Frag} {mg : Str → Option Value} {s : Shared} {cs : List (Addr × Addr)} {a : Addr} {vs : List Value} {ns : List Int}
/-- the script's list and the tables, and nothing else, are followed -/
noncomputable def hp (K : PySem.W.Frag) (cs : List (Addr × Addr)) (a : Addr) (vs : List Value) (ns : List Int) : Hp := fun b =>
  open Classical in
  if b ∈ cs.map Prod.snd then some (.tbl #[]) else if b = a ∧ K.lookup a = none then some (.frz { cls := .type "list", data := .seq vs.toArray } (.lst (ns.map V.int))) else none
theorem hp_tab {p : Addr × Addr} (h : p ∈ cs) : hp K cs a vs ns p.2 = some (.tbl #[]) := by
  unfold hp
  exact if_pos (List.mem_map.mpr ⟨p, h, rfl⟩)
/-- what is followed -/
theorem hp_cases {b : Addr} {u : HO} (h : hp K cs a vs ns b = some u) : (∃ p ∈ cs, p.2 = b ∧ u = .tbl #[]) ∨ (b = a ∧ K.lookup a = none ∧ (∀ p ∈ cs, p.2 ≠ b) ∧ u = .frz { cls := .type "list", data := .seq vs.toArray } (.lst (ns.map V.int))) := by
  unfold hp at h
  by_cases m : b ∈ cs.map Prod.snd
  · rw [if_pos m] at h
    obtain ⟨p, hp, e⟩ := List.mem_map.mp m
    exact .inl ⟨p, hp, e, (Option.some.inj h).symm⟩
  · rw [if_neg m] at h
    by_cases q : b = a ∧ K.lookup a = none
    · rw [if_pos q] at h
      exact .inr ⟨q.1, q.2, fun p hp e => m (List.mem_map.mpr ⟨p, hp, e⟩), (Option.some.inj h).symm⟩
    · rw [if_neg q] at h
      cases h
theorem Here.apart (W : Here K mg s cs a vs ns) {p : Addr × Addr} (h : p ∈ cs) : p.2 ≠ a := fun e => by
  have t := W.tab p h
  rw [e, W.obj] at t
  exact absurd (congrArg Obj.data (Option.some.inj t)) (by simp)
theorem Here.free (W : Here K mg s cs a vs ns) {b : Addr} {o : Obj} (g : s.heap.get? b = some o) (n1 : ∀ z n, o.data ≠ .seq z n) (n2 : o.data ≠ .fields #[]) : hp K cs a vs ns b = none := by
  cases e : hp K cs a vs ns b with
  | none => rfl
  | some u =>
    rcases hp_cases e with ⟨p, hp, rfl, _⟩ | ⟨rfl, _⟩
    · rw [W.tab p hp] at g
      exact absurd (by rw [← Option.some.inj g]) n2
    · rw [W.obj] at g
      exact absurd (by rw [← Option.some.inj g]) (n1 vs.toArray _)
theorem Here.spc (W : Here K mg s cs a vs ns) {b : Addr} {m : Str → Option Value} (h : s.heap.Ns b m) : (hidT s.heap (hp K cs a vs ns)).Ns b m := by
  obtain ⟨o, es, ep, g, d, r⟩ := h
  refine ⟨o, es, ep, hidT_get g (W.free g (fun z n q => ?_) fun q => ?_), d, r⟩
  · rw [d] at q
    cases q
  · rw [d] at q
    cases q
theorem Here.base (W : Here K mg s cs a vs ns) : K.In (hidT s.heap (hp K cs a vs ns)) := fun b o e => by
  refine hidT_get (W.kin b o e) ?_
  cases q : hp K cs a vs ns b with
  | none => rfl
  | some u =>
    rcases hp_cases q with ⟨p, hp, rfl, _⟩ | ⟨rfl, k, _⟩
    · rw [W.out p hp] at e
      cases e
    · rw [k] at e
      cases e
theorem Here.tabB (W : Here K mg s cs a vs ns) {p : Addr × Addr} (h : p ∈ cs) : LamX.TabB (hidT s.heap (hp K cs a vs ns)) mg p.1 p.2 := by
  have tp := W.tab p h
  have apart : ∀ {b : Addr} {o : Obj}, s.heap.get? b = some o → (o.data ≠ .fields #[]) → b ≠ p.2 := fun g n z => by
    rw [z, tp] at g
    exact n (by rw [← Option.some.inj g])
  obtain ⟨og, eg, pg, gg, dg, rg⟩ := id W.glob
  have ng : og.data ≠ .fields #[] := fun z => by
    rw [dg] at z
    cases z
  refine ⟨?_, ?_, apart gg ng⟩
  · obtain ⟨o, us, f1, f2, f3, f4, f5, f6, f7, g, r1, r2, r3, rest⟩ := W.code p h
    refine ⟨o, us, f1, f2, f3, f4, f5, f6, f7, hidT_get g (W.free g (fun z n q => ?_) fun q => ?_), r1, r2, r3, rest⟩
    · rw [r2] at q
      cases q
    · rw [r2] at q
      cases q
      simp at r3
  · obtain ⟨b, o, b1, b2, b3, b4, b5, b6⟩ := W.bm
    have pl : o.data ≠ .fields #[] := fun z => by
      rw [b6] at z
      cases z
    refine ⟨b, o, b1, b2, fun z => ?_, apart b3 pl, hidT_get b3 (W.free b3 (fun z n q => ?_) pl), b4, b5, b6⟩
    · rw [z, gg] at b3
      rw [← Option.some.inj b3, dg] at b6
      cases b6
    · rw [b6] at q
      cases q
theorem Here.sq (W : Here K mg s cs a vs ns) : SqL K (hp K cs a vs ns) a (ns.map V.int) := by
  cases k : K.lookup a with
  | some o =>
    have g := W.kin a o k
    rw [W.obj] at g
    obtain rfl := Option.some.inj g
    exact .inr ⟨_, vs.toArray, _, k, rfl, rfl, rfl, by rw [List.size_toArray, W.nums.length]; exact W.few, by simpa using vals_ints W.nums⟩
  | none =>
    refine .inl (.inr ⟨{ cls := .type "list", data := .seq vs.toArray }, ?_⟩)
    unfold hp
    rw [if_neg, if_pos ⟨rfl, k⟩]
    intro m
    obtain ⟨p, hp, e⟩ := List.mem_map.mp m
    exact W.apart hp e
theorem Here.hok (W : Here K mg s cs a vs ns) : HOk P w (hp K cs a vs ns) s.heap := fun b u e => by
  rcases hp_cases e with ⟨p, hp, rfl, rfl⟩ | ⟨rfl, _, _, rfl⟩
  · exact W.tab p hp
  · exact ⟨W.obj, by rw [List.length_map]; exact W.few, vs, _, vals_ints W.nums, W.obj⟩
theorem Here.env (W : Here K mg s cs a vs ns) : Env0 P w K mg (hidT s.heap (hp K cs a vs ns)) callerA [] s (hp K cs a vs ns) := by
  obtain ⟨mb, b1, b2⟩ := W.blt
  obtain ⟨mc, l1, l2⟩ := W.lim
  exact ⟨rfl, ⟨W.base, W.spc W.glob, ⟨mb, W.spc b1, b2⟩, ⟨mc, W.spc l1, l2⟩⟩, fun b o g => of_hidT g, Nat.le_of_eq (hidT_size _ _), trivial, (by intro b hb; cases hb), W.hok, .of_eq W.gens⟩
/-- what a call that gives True leaves behind -/
theorem Here.after (W : Here K mg s cs a vs ns) {CX : CXT} {r : Result} {s' : Shared} (no : ∀ H e s', CX [] H s (fun _ _ _ => False) e s' → False) (h : CR CX [] P w (hp K cs a vs ns) s (fun v _ => v = .bl true) (fun _ _ _ => False) r s') : r = .ok (.ret (.bool true)) ∧ OldK s.heap s'.heap ∧ s'.os = s.os ∧ AllBare s'.gens := by
  cases r with
  | error e => exact (no _ e s' h).elim
  | ok fl =>
    cases fl with
    | ret u =>
      obtain ⟨v, H', os, bare, un, ok', rv, rfl⟩ := h
      obtain rfl : u = Value.bool true := rv
      have tabs : ∀ p ∈ cs, ∃ z : Array Value, s'.heap.get? p.2 = some { cls := .none, data := .fields z } := fun p hp => by
        obtain ⟨z, e⟩ := un.tbls p.2 #[] (hp_tab hp)
        exact ⟨_, ok' p.2 _ e⟩
      have rest : ∀ b o, (∀ p ∈ cs, p.2 ≠ b) → s.heap.get? b = some o → s'.heap.get? b = some o := fun b o n g => by
        cases q : hp K cs a vs ns b with
        | none => exact un.keep b o g q (by intro z; cases z) (by simp)
        | some u =>
          rcases hp_cases q with ⟨p, hp, e, _⟩ | ⟨rfl, k, _, rfl⟩
          · exact absurd e (n p hp)
          · have f := un.frzs b _ _ q
            obtain ⟨g2, _⟩ := ok' b _ f
            rw [g2, ← g]
            exact W.obj.symm
      refine ⟨rfl, ⟨fun b o g => ?_, fun b o g => ?_⟩, os, bare⟩
      · by_cases m : ∃ p ∈ cs, p.2 = b
        · obtain ⟨p, hp, rfl⟩ := m
          obtain ⟨z, e⟩ := tabs p hp
          rw [W.tab p hp] at g
          obtain rfl := Option.some.inj g
          refine .inr (.inl ⟨((W.code p hp).tab (W.tab p hp)).isCodeTable, rfl, #[], z, rfl, ?_⟩)
          rw [Array.empty_append]
          exact e
        · exact .inl (rest b o (fun p hp e => m ⟨p, hp, e⟩) g)
      · by_cases m : ∃ p ∈ cs, p.2 = b
        · obtain ⟨p, hp, rfl⟩ := m
          obtain ⟨z, e⟩ := tabs p hp
          exact ⟨_, e⟩
        · exact ⟨o, rest b o (fun p hp e => m ⟨p, hp, e⟩) g⟩
    | next => exact h.elim
    | brk => exact h.elim
    | cont => exact h.elim
end
/-- the law's promise at the very call -/
def LawHere (l : PySem.W.OpenLaw) (w : World) (K : PySem.W.Frag) (CX : CXT) (n : Nat) (mg : Str → Option Value) (fa : Addr) (h : Heap) : Prop :=
  ∃ cs : List (Addr × Addr), (∀ p ∈ cs, h.get? p.2 = some { cls := .none, data := .fields #[] }) ∧ (∀ p ∈ cs, K.lookup p.2 = none) ∧ (∀ p ∈ cs, PySem.W.CodeHd h p.1 p.2) ∧
    ∀ (base : Heap) (s : Shared) (H : Hp) (a : Addr) (ns : List Int), K.In base → base.Ns mainGlobals mg → (∀ p ∈ cs, LamX.TabB base mg p.1 p.2) → (∀ p ∈ cs, H p.2 = some (.tbl #[])) → SqL K H a (ns.map V.int) → ns.length ≤ n → Env0 l.prog w K mg base callerA [] s H →
      codeAny (model l.prog w) callerA (.call (.ref fa) ⟨[.ref a], []⟩) (CR CX [] l.prog w H s (fun v _ => v = .bl true) fun _ _ _ => False) s
theorem walk_here {l : PySem.W.OpenLaw} {n : Nat} {q : Program} {loose : List Str} {XP : (Str → Option Value) → Heap → Prop} {YP : World → Heap → Prop} {d : DefRec} {CX : World → CXT} (hn : l.most = some n) (hn2 : n ≤ sizeLine) (hdf : d.params.defaults = [])
    (F : ∀ (w : World) (mg : Str → Option Value) (fa : Addr) (h : Heap), YP w h → h.Ns mainGlobals mg → mg d.name = some (.ref fa) → ∃ K : PySem.W.Frag, K.In h ∧ LawHere l w K (CX w) n mg fa h)
    (no : ∀ (w : World) (H : Hp) (s : Shared) (e : Value) (s' : Shared), CX w [] H s (fun _ _ _ => False) e s' → False) :
    PySem.W.WalkO q loose XP YP l.row.toRowW d [] (fun f vs => PySem.call f vs) := by
  refine Att.attach_callB hn hdf fun w s0 s mg mb fa o pm cd doc a vs ns G Y ho hd hcd hmg hobj hints hlen hbits hg => ?_
  obtain ⟨K, kin, cs, h1, h2, h3, run⟩ := F w mg fa _ Y G.T.g hmg
  have W : Here K mg s cs a vs ns := ⟨kin, G.T.g, ⟨mb, G.T.b, G.T.builtins⟩, G.T.nolimit, hg, h1, h2, h3, G.T.bmain, hobj, hints, Nat.le_trans hlen hn2⟩
  exact codeAny_mono (run _ s _ a ns W.base (W.spc W.glob) (fun p hp => W.tabB hp) (fun p hp => hp_tab hp) W.sq hlen W.env) fun r s' h => W.after (fun H e s2 => no w H s e s2) h
end GA

namespace GA
open PySem PySem.Spec PyProof.Rows L2
/-! ### repr of data -/
def rRepr (K : PySem.W.Frag) : List V → Hp → VK → Prop := fun xs H Q => ∃ (p : Addr) (d : PyData), xs = [.ref p] ∧ Dp K H (.ref p) d ∧ d.showable = true ∧ d.hasDict = false ∧ d.depth ≤ 60 ∧ d.shown.length ≤ sizeLine ∧ Q (.str d.shown) H
theorem call_repr_dat {X : Cx} (hg : X.A.guards = some []) (hu : X.A.units + 65 < cLine) : CallR X (.builtin "repr") (rRepr X.K) := by
  intro pins s σ H xs us Q I r h
  obtain ⟨p, d, rfl, hd, sh, nd, dp, sz, q⟩ := h
  obtain ⟨u, rfl, ru⟩ : ∃ u, us = [u] ∧ RelV (.ref p) u := by
    cases r with
    | cons a b =>
      cases b
      exact ⟨_, rfl, a⟩
  obtain ⟨as, rd⟩ := Dp.reads I d _ _ hd ru
  cases ru
  exact repr_of_reads' rd sh (fun e => by rw [nd] at e; cases e) hg (by omega) (fun b o e => e) (fun h' u tk k => ⟨.str d.shown, H, I.kept (t' := tk) k, ⟨u, rfl⟩, q⟩) sz
end GA

namespace DR
open PySem PySem.Spec PyProof.Rows PySem.W PySem.SeqAt
/-! ### sorting where an earlier place decides: rows that are not all alike -/
/-- rows of data: as far as the first place that differs, the places can be compared -/
def cmpL (R : PyData → PyData → Prop) : List PyData → List PyData → Prop
  | x :: xs, y :: ys => R x y ∧ (PyData.eqv x y = true → cmpL R xs ys)
  | _, _ => True
def alikeP (x y : PyData) : Prop := alike x y = true
def R1 (x y : PyData) : Prop := alikeP x y ∨ ∃ xs ys, x = .tuple xs ∧ y = .tuple ys ∧ cmpL alikeP xs ys
def Toks (x y : PyData) : Prop := (PyData.eqv x y = true → keyToks x = keyToks y) ∧ (PyData.eqv x y = false → ∀ l m, PyProof.Rows.lexLt itemOrd (keyToks x ++ l) (keyToks y ++ m) = PyProof.Rows.lexLt itemOrd (keyToks x) (keyToks y))
def ToksL (xs ys : List PyData) : Prop := (PyData.eqvAll xs ys = true → keyToksAll xs = keyToksAll ys) ∧ (PyData.eqvAll xs ys = false → ∀ l m, PyProof.Rows.lexLt itemOrd (keyToksAll xs ++ l) (keyToksAll ys ++ m) = PyProof.Rows.lexLt itemOrd (keyToksAll xs) (keyToksAll ys))
theorem toksL {R : PyData → PyData → Prop} (h : ∀ x y, R x y → Toks x y) : ∀ xs ys, cmpL R xs ys → ToksL xs ys
  | [], [], _ => ⟨fun _ => rfl, fun e => absurd e (by simp [PyData.eqvAll])⟩
  | [], y :: ys, _ => ⟨fun e => absurd e (by simp [PyData.eqvAll]), fun _ l m => by
      simp only [keyToksAll, List.cons_append, List.nil_append]
      exact (lex_atom (by simp) _ _).trans (lex_atom (by simp) _ _).symm⟩
  | x :: xs, [], _ => ⟨fun e => absurd e (by simp [PyData.eqvAll]), fun _ l m => by
      simp only [keyToksAll, List.cons_append, List.nil_append]
      exact (lex_atom (by simp) _ _).trans (lex_atom (by simp) _ _).symm⟩
  | x :: xs, y :: ys, c => by
    obtain ⟨a1, a2⟩ := h x y c.1
    unfold ToksL
    rw [eqv_all_cons, toks_all_cons, toks_all_cons]
    cases hx : PyData.eqv x y with
    | true =>
      obtain ⟨b1, b2⟩ := toksL h xs ys (c.2 hx)
      rw [a1 hx, Bool.true_and]
      refine ⟨fun e => by rw [b1 e], fun e l m => ?_⟩
      simp only [List.cons_append, List.append_assoc]
      exact (lex_self (O := itemOrd) _ _ _).trans ((lex_pre _ _ _).trans ((b2 e l m).trans ((lex_pre _ _ _).symm.trans (lex_self (O := itemOrd) _ _ _).symm)))
    | false =>
      rw [Bool.false_and]
      refine ⟨fun e => absurd e Bool.false_ne_true, fun _ l m => ?_⟩
      simp only [List.cons_append, List.append_assoc]
      exact (lex_self (O := itemOrd) _ _ _).trans ((a2 hx _ _).trans ((a2 hx _ _).symm.trans (lex_self (O := itemOrd) _ _ _).symm))
theorem toks_alike (x y : PyData) (h : alikeP x y) : Toks x y := toks_eqv x y h
theorem toks_R1 (x y : PyData) (h : R1 x y) : Toks x y := by
  rcases h with h | ⟨xs, ys, rfl, rfl, h⟩
  · exact toks_eqv x y h
  · have t := toksL toks_alike xs ys h
    unfold Toks
    simp only [keyToks, PyData.eqv]
    exact t
section
variable {R : PyData → PyData → Prop} (hT : ∀ x y, R x y → Toks x y)
include hT
theorem lt_yes {x y : PyData} {xs ys : List PyData} (h : R x y) (e : PyData.eqv x y = true) : PyProof.Rows.lexLt itemOrd (keyToksAll (x :: xs)) (keyToksAll (y :: ys)) = PyProof.Rows.lexLt itemOrd (keyToksAll xs) (keyToksAll ys) := by
  rw [toks_all_cons, toks_all_cons, (hT x y h).1 e]
  exact (lex_self (O := itemOrd) _ _ _).trans (lex_pre _ _ _)
theorem lt_no {x y : PyData} {xs ys : List PyData} (h : R x y) (e : PyData.eqv x y = false) : PyProof.Rows.lexLt itemOrd (keyToksAll (x :: xs)) (keyToksAll (y :: ys)) = dataLt x y := by
  rw [toks_all_cons, toks_all_cons]
  exact (lex_self (O := itemOrd) _ _ _).trans ((hT x y h).2 e _ _)
theorem firstLt_cmp : ∀ (xs ys : List PyData), cmpL R xs ys →
    firstLt (pairEq xs ys) (fun j => dataLt (xs.getD j .none) (ys.getD j .none)) (decide (xs.length < ys.length)) (List.range (min xs.length ys.length)) = PyProof.Rows.lexLt itemOrd (keyToksAll xs) (keyToksAll ys)
  | [], [], _ => by simp [firstLt, keyToksAll, lex_irrefl]
  | [], y :: ys, _ => by
    rw [toks_all_cons]
    simp only [keyToksAll]
    rw [lex_diff (O := itemOrd) (by simp)]
    simp [firstLt, itemLt]
  | x :: xs, [], _ => by
    rw [toks_all_cons]
    simp only [keyToksAll]
    rw [lex_diff (O := itemOrd) (by simp)]
    simp [firstLt, itemLt]
  | x :: xs, y :: ys, h => by
    have em : min (x :: xs).length (y :: ys).length = min xs.length ys.length + 1 := by
      rw [List.length_cons, List.length_cons]
      omega
    have ed : decide ((x :: xs).length < (y :: ys).length) = decide (xs.length < ys.length) := by
      rw [List.length_cons, List.length_cons]
      exact decide_eq_decide.mpr (by omega)
    rw [em, ed, List.range_succ_eq_map]
    cases hx : PyData.eqv x y with
    | true =>
      rw [firstLt_yes (show pairEq (x :: xs) (y :: ys) 0 = true from hx), firstLt_map, lt_yes hT h.1 hx, ← firstLt_cmp xs ys (h.2 hx)]
      rfl
    | false =>
      rw [firstLt_no (show pairEq (x :: xs) (y :: ys) 0 = false from hx), lt_no hT h.1 hx]
      rfl
end
/-- the place that is reached can be compared -/
theorem cmpL_at {R : PyData → PyData → Prop} : ∀ (xs ys : List PyData) (j : Nat), cmpL R xs ys → j < xs.length → j < ys.length → (∀ i, i < j → pairEq xs ys i = true) → R (xs.getD j .none) (ys.getD j .none)
  | x :: xs, y :: ys, 0, h, _, _, _ => h.1
  | x :: xs, y :: ys, j + 1, h, h1, h2, e => cmpL_at xs ys j (h.2 (e 0 (Nat.succ_pos _))) (Nat.lt_of_succ_lt_succ h1) (Nat.lt_of_succ_lt_succ h2) fun i hi => e (i + 1) (Nat.succ_lt_succ hi)
  | [], _, _, _, h1, _, _ => absurd h1 (Nat.not_lt_zero _)
  | _ :: _, [], _, _, _, h2, _ => absurd h2 (Nat.not_lt_zero _)
end DR

namespace DR
open PySem PySem.Spec PyProof.Rows PySem.W PySem.SeqAt
open PySem.AutoSeq1 (wpAny_loadPart')
open PySem.MeetsSeq PySem.MeetsSeq2 PySem.MeetsSeq3 PySem.SeqRoads2
section
/-- tuple's own <, a place's < asked only where the ones ahead are equal -/
theorem tuple_ltL (l b : Addr) (items items2 : Array Value) (n n2 : Nat) (dd dd2 : Option Addr) (sl sl2 : Array (Option Value)) (e r : Nat → Bool) :
    Meets (Builtin.«tuple.__lt__» ⟨[.ref l, .ref b], []⟩)
      (fun A R s => s.heap.get? l = some { cls := .type "tuple", dict := dd, data := .seq items n, slots := sl } ∧ s.heap.get? b = some { cls := .type "tuple", dict := dd2, data := .seq items2 n2, slots := sl2 } ∧
        (∀ j (h1 : j < items.size) (h2 : j < items2.size), EqAt A.in1 s items[j] items2[j] (e j)) ∧ (∀ j (h1 : j < items.size) (h2 : j < items2.size), (∀ i, i < j → e i = true) → e j = false → RcLt A.in1 s items[j] items2[j] (r j)) ∧
        R (.ok (.ret (.bool (firstLt e r (decide (items.size < items2.size)) (List.range (min items.size items2.size)))))) s) :=
  .of_wp fun prog w A R s h => by
    obtain ⟨hp, g, d, tk, os⟩ := s; obtain ⟨hl, hb, he, hr, h⟩ := h
    have f2 := AutoSeq1.sub_tuple_tuple
    have hZ : (items.toList.zip items2.toList).length = min items.size items2.size := by simp
    wp_walk using wpAny_loadPart' hl, wpAny_loadPart' hb, wpAny_forIn_list _ (fun rest b s' => b.1 = none ∧ s' = ⟨hp, g, d, tk, os⟩ ∧ ∃ i, rest = (items.toList.zip items2.toList).drop i ∧ (∀ k, k < i → e k = true) ∧
      R (.ok (.ret (.bool (firstLt e r (decide (items.size < items2.size)) ((List.range (min items.size items2.size)).drop i))))) ⟨hp, g, d, tk, os⟩) _
    case turn =>
      rintro ⟨y, x⟩ rest b s' ⟨hb', rfl, i, hz, hpre, hR⟩
      have hlt : i < (items.toList.zip items2.toList).length := by
        rcases Nat.lt_or_ge i (items.toList.zip items2.toList).length with h' | h'
        · exact h'
        · rw [List.drop_of_length_le h'] at hz; cases hz
      have hm : i < min items.size items2.size := hZ ▸ hlt
      have h1 : i < items.size := Nat.lt_of_lt_of_le hm (Nat.min_le_left _ _)
      have h2 : i < items2.size := Nat.lt_of_lt_of_le hm (Nat.min_le_right _ _)
      rw [List.drop_eq_getElem_cons hlt] at hz
      injection hz with hyx hrest
      have hy : y = items[i] := by have := congrArg Prod.fst hyx; simpa using this
      have hx : x = items2[i] := by have := congrArg Prod.snd hyx; simpa using this
      subst hy hx
      have hd : (List.range (min items.size items2.size)).drop i = i :: (List.range (min items.size items2.size)).drop (i + 1) := by simp [List.drop_eq_getElem_cons, hm]
      rw [hd] at hR
      refine wpAny_bind (he i h1 h2 prog w _ _ ?_)
      cases hy : e i with
      | true =>
        rw [firstLt_yes hy] at hR
        wp_walk
        refine ⟨rfl, rfl, i + 1, hrest, fun k hk => ?_, hR⟩
        rcases Nat.lt_succ_iff_lt_or_eq.mp hk with h' | h'
        · exact hpre k h'
        · rw [h']
          exact hy
      | false =>
        rw [firstLt_no hy] at hR
        have hr' := hr i h1 h2 hpre hy prog w
        generalize richCompare CmpOp.Lt items[i] items2[i] = mm at hr' ⊢
        wp_walk
        refine hr' _ _ ?_
        wp_walk
        exact ⟨_, rfl, hR⟩
    case fin =>
      rintro ⟨b1, b2⟩ s' ⟨hb', rfl, i, hz, _, hR⟩
      simp only at hb'
      subst hb'
      have hge : min items.size items2.size ≤ i := by
        rcases Nat.lt_or_ge i (items.toList.zip items2.toList).length with h' | h'
        · rw [List.drop_eq_getElem_cons h'] at hz; cases hz
        · exact hZ ▸ h'
      rw [List.drop_of_length_le (by simpa using hge)] at hR
      wp_walk
      exact ⟨_, rfl, by simpa [Builtin.Tuple.tupleCompareSizes, firstLt] using hR⟩
    case h =>
      exact ⟨rfl, rfl, 0, rfl, fun k hk => absurd hk (Nat.not_lt_zero _), by simpa using h⟩
theorem rcLt_tuplesL {A : Around} {s : Shared} {l b : Addr} {items items2 : Array Value} {e r : Nat → Bool} (hl : s.heap.IsTuple l items) (hb : s.heap.IsTuple b items2) (hu : A.units < cLine)
    (he : ∀ j (h1 : j < items.size) (h2 : j < items2.size), EqAt A.in1 s items[j] items2[j] (e j)) (hr : ∀ j (h1 : j < items.size) (h2 : j < items2.size), (∀ i, i < j → e i = true) → e j = false → RcLt A.in1 s items[j] items2[j] (r j)) :
    RcLt A s (.ref l) (.ref b) (firstLt e r (decide (items.size < items2.size)) (List.range (min items.size items2.size))) := fun prog w E Q h => by
  obtain ⟨⟨cls, dd, data, sl⟩, ho, hc, n, hd⟩ := id hl
  obtain ⟨⟨cls2, dd2, data2, sl2⟩, ho2, hc2, n2, hd2⟩ := id hb
  simp only at hc hd hc2 hd2
  subst hc hd hc2 hd2
  exact richCompare_meets_room (op := .Lt) ⟨_, ho, rfl⟩ ⟨_, ho2, rfl⟩ F.slot_tuple_lt F.entry_tuple_lt (F.args_tuple_lt_2 _ _) (tuple_ltL l b items items2 n n2 dd dd2 sl sl2 e r)
    ⟨ho, ho2, he, hr, show Value.bool (firstLt e r (decide (items.size < items2.size)) (List.range (min items.size items2.size))) ≠ Value.notImplemented ∧ Q (.bool (firstLt e r (decide (items.size < items2.size)) (List.range (min items.size items2.size)))) s from ⟨(fun x => nomatch x), h⟩⟩ hu
end
theorem reads_at {h : Heap} : ∀ {xs : List PyData} {vs : List Value} {as : List Addr}, ReadsAll h vs xs as → ∀ (j : Nat) (h1 : j < vs.length), ∃ as', Reads h vs[j] (xs.getD j .none) as'
  | [], _, _, r, j, h1 => by
    cases r
    exact absurd h1 (Nat.not_lt_zero _)
  | x :: xs, _, _, r, j, h1 => by
    cases r with
    | cons r rs =>
      cases j with
      | zero => exact ⟨_, r⟩
      | succ j => exact reads_at rs j (Nat.lt_of_succ_lt_succ h1)
theorem depth_at : ∀ (xs : List PyData) (j : Nat), (xs.getD j .none).depth ≤ PyData.depthAll xs
  | [], j => by simp [PyData.depth]
  | x :: xs, 0 => by
    rw [PyData.depthAll]
    exact Nat.le_max_left _ _
  | x :: xs, j + 1 => by
    rw [PyData.depthAll]
    exact Nat.le_trans (depth_at xs j) (Nat.le_max_right _ _)
/-- a < b of data of one kind -/
theorem rcLt_R1 {A : Around} {s : Shared} {da db : PyData} {a b : Value} {as bs : List Addr} (ra : Reads s.heap a da as) (rb : Reads s.heap b db bs) (h : R1 da db) (la : da.plain = true) (lb : db.plain = true) (hn : da ≠ .none) (hu : A.units + min da.depth db.depth < cLine) : RcLt A s a b (dataLt da db) := by
  rcases h with h | ⟨xs, ys, rfl, rfl, h⟩
  · exact rcLt_alike da db A s a b as bs ra rb h hn hu
  · cases ra with
    | @tuple l o vs n _ as₁ h1 h2 h3 h4 =>
      cases rb with
      | @tuple l' o' vs' n' _ bs₁ k1 k2 k3 k4 =>
        have n1 : vs.size = xs.length := by simpa using SeqAt.ReadsAll.length _ _ _ h4
        have n2 : vs'.size = ys.length := by simpa using SeqAt.ReadsAll.length _ _ _ k4
        have hin : A.units + 1 + min (PyData.depthAll xs) (PyData.depthAll ys) < cLine := room_in hu
        rw [dataLt_tuple, ← firstLt_cmp toks_alike xs ys h, ← n1, ← n2]
        refine rcLt_tuplesL ⟨_, h1, h2, _, h3⟩ ⟨_, k1, k2, _, k3⟩ (room_here hu) (fun j j1 j2 => ?_) fun j j1 j2 pre hj => ?_
        · have := eqAt_plainAll xs ys A.in1 s vs.toList vs'.toList _ _ h4 k4 la lb hin j (by simpa using j1) (by simpa using j2)
          simpa using this
        · obtain ⟨as', r1⟩ := reads_at h4 j (by simpa using j1)
          obtain ⟨bs', r2⟩ := reads_at k4 j (by simpa using j2)
          have hR : alikeP (xs.getD j .none) (ys.getD j .none) := cmpL_at xs ys j h (by omega) (by omega) pre
          have d1 := depth_at xs j
          have d2 := depth_at ys j
          have := rcLt_alike (xs.getD j .none) (ys.getD j .none) A.in1 s _ _ _ _ r1 r2 hR (ne_none_of hR hj) (Nat.lt_of_le_of_lt (Nat.add_le_add_left (Nat.le_min.mpr ⟨Nat.le_trans (Nat.min_le_left _ _) d1, Nat.le_trans (Nat.min_le_right _ _) d2⟩) _) hin)
          simpa using this
theorem ne_none_R1 {x y : PyData} (h : R1 x y) (e : PyData.eqv x y = false) : x ≠ .none := by
  rcases h with h | ⟨xs, ys, rfl, rfl, h⟩
  · exact ne_none_of h e
  · exact fun z => nomatch z
section
variable {prog : Program} {w : World} {A : Around} {E : Value → Shared → Prop} {s : Shared}
theorem oneLt_R1 {f : Bool} {da db : PyData} {a b : Value} {as bs : List Addr} {Q : Bool → Shared → Prop} (hf : f = true → ∀ xs, da ≠ .tuple xs) (ra : Reads s.heap a da as) (rb : Reads s.heap b db bs) (h : R1 da db) (la : da.plain = true) (lb : db.plain = true) (hn : da ≠ .none)
    (hu : A.units + min da.depth db.depth < cLine) (hq : Q (dataLt da db) s) : wpAny (model prog w) A (oneLt' f a b) Q E s := by
  rcases id h with ha | ⟨xs, ys, rfl, rfl, hc⟩
  · exact oneLt_alike hf ra rb ha hn hu hq
  · cases f with
    | true => exact absurd rfl (hf rfl xs)
    | false =>
      rw [oneLt'_eq]
      simp only [Bool.false_eq_true, if_false]
      exact wpAny_bind (rcLt_R1 ra rb h la lb hn hu prog w E _ (wpAny_truthy_bool hq))
theorem katLex_R1 {b fin : Bool} {Q : Bool → Shared → Prop} : ∀ (xs ys : List PyData) (i : Nat) (vs ws : List Value) (as bs : List Addr), ReadsAll s.heap vs xs as → ReadsAll s.heap ws ys bs → cmpL R1 xs ys → PyData.plainAll xs = true → PyData.plainAll ys = true →
    A.units + min (PyData.depthAll xs) (PyData.depthAll ys) < cLine → (b = true → i = 0 → ∀ x r t, xs = x :: r → x ≠ .tuple t) → fin = decide (xs.length < ys.length) → Q (PyProof.Rows.lexLt itemOrd (keyToksAll xs) (keyToksAll ys)) s → KatLex prog w A b fin Q (vs.zip ws) i s
  | [], [], i, _, _, _, _, ra, rb, _, _, _, _, _, hf, hq => by
    cases ra
    cases rb
    have e : fin = false := by rw [hf]; rfl
    subst e
    rw [lex_irrefl] at hq
    exact kat_nil hq
  | [], y :: ys, i, _, _, _, _, ra, rb, _, _, _, _, _, hf, hq => by
    cases ra
    have e : fin = true := by rw [hf]; exact decide_eq_true (Nat.succ_pos _)
    subst e
    rw [toks_all_cons] at hq
    simp only [keyToksAll] at hq
    rw [lex_diff (O := itemOrd) (by simp)] at hq
    rw [List.zip_nil_left]
    exact kat_nil (by simpa [itemLt] using hq)
  | x :: xs, [], i, _, _, _, _, ra, rb, _, _, _, _, _, hf, hq => by
    cases rb
    have e : fin = false := by rw [hf]; exact decide_eq_false (Nat.not_lt_zero _)
    subst e
    rw [toks_all_cons] at hq
    simp only [keyToksAll] at hq
    rw [lex_diff (O := itemOrd) (by simp)] at hq
    rw [List.zip_nil_right]
    exact kat_nil (by simpa [itemLt] using hq)
  | x :: xs, y :: ys, i, _, _, _, _, ra, rb, h, lx, ly, hu, hb, hf, hq => by
    have lx' : x.plain = true ∧ PyData.plainAll xs = true := by simpa [PyData.plainAll] using lx
    have ly' : y.plain = true ∧ PyData.plainAll ys = true := by simpa [PyData.plainAll] using ly
    have hf' : fin = decide (xs.length < ys.length) := by
      rw [hf]
      simp only [List.length_cons, Nat.add_lt_add_iff_right]
    cases ra with
    | cons r rs =>
      cases rb with
      | cons r' rs' =>
        rw [List.zip_cons_cons]
        refine kat_cons (eqAt_plain x y A s _ _ _ _ r r' lx'.1 ly'.1 (room_head hu) prog w _ _ ?_)
        cases hx : PyData.eqv x y with
        | true =>
          rw [lt_yes toks_R1 h.1 hx] at hq
          exact kat_yes (katLex_R1 xs ys (i + 1) _ _ _ _ rs rs' (h.2 hx) lx'.2 ly'.2 (room_tail hu) (fun _ hi => absurd hi (Nat.succ_ne_zero i)) hf' hq)
        | false =>
          rw [lt_no toks_R1 h.1 hx] at hq
          refine kat_no (oneLt_R1 (fun hbi t => ?_) r r' h.1 lx'.1 ly'.1 (ne_none_R1 h.1 hx) (room_head hu) hq)
          rw [Bool.and_eq_true] at hbi
          exact hb hbi.1 (by simpa using hbi.2) x xs t rfl
end
end DR

namespace DR
open PySem PySem.Spec PySem.Calls PyProof.Rows PySem.W PySem.SeqAt
/-- rows of data that can be sorted: an earlier place may decide -/
structure Mix (ds : List PyData) (T : Value) : Prop where
  tup : ∀ d, d ∈ ds → ∃ x r, d = .tuple (x :: r) ∧ dataType x = T
  cmp : ∀ xs ys, .tuple xs ∈ ds → .tuple ys ∈ ds → cmpL R1 xs ys
  lay : ∀ d, d ∈ ds → d.plain = true
theorem mix_some {h : Heap} {ds : List PyData} {T : Value} (M : Mix ds T) {v : Value} {d : PyData} {as : List Addr} (hd : d ∈ ds) (r : Reads h v d as) : (dataKind h ds).keyOf v = some (keyToks d) := by
  have q : ∃ d, d ∈ ds ∧ ∃ as, Reads h v d as := ⟨d, hd, as, r⟩
  have e : (dataKind h ds).keyOf v = some (keyToks q.choose) := by
    show (open Classical in if q : ∃ d, d ∈ ds ∧ ∃ as, Reads h v d as then some (keyToks q.choose) else none) = _
    rw [dif_pos q]
  obtain ⟨h1, as', h2⟩ := q.choose_spec
  rw [e, SeqAt.plain_unique _ _ _ _ _ (M.lay _ h1) h2 r]
theorem mix_keys {h : Heap} {ds : List PyData} {T : Value} (M : Mix ds T) {vs : List Value} (e : EachIs (fun v d => ∃ as, Reads h v d as) vs ds) : EachIs (fun v d => (dataKind h ds).keyOf v = some (keyToks d)) vs ds :=
  (each_mem e).mono fun _ _ ⟨⟨_, r⟩, hd⟩ => mix_some M hd r
section
variable {prog : Program} {w : World} {A : Around} {s : Shared}
theorem sorts_mix {vs : List Value} {ds : List PyData} {T : Value} (e : EachIs (fun v d => ∃ as, Reads s.heap v d as) vs ds) (M : Mix ds T) (hT : (T == T) = true) (hu : ∀ d, d ∈ ds → A.units + d.depth < cLine) : SortsAt prog w A s (dataKind s.heap ds) vs := by
  refine ⟨fun v hv => ?_, tuples' (T != Value.type "tuple"), ?_, fun h2 E Q hq => ?_⟩
  · obtain ⟨d, hd, as, r⟩ := e.left v hv
    exact ⟨_, mix_some M hd r⟩
  · intro E x y a b Q ha hb hq
    obtain ⟨d, as, hd, ra, rfl⟩ := dataKind_inv ha
    obtain ⟨d', as', hd', rb, rfl⟩ := dataKind_inv hb
    have hroom : A.units + min d.depth d'.depth < cLine := Nat.lt_of_le_of_lt (Nat.add_le_add_left (Nat.min_le_left _ _) _) (hu d hd)
    obtain ⟨x1, r1, rfl, t1⟩ := M.tup d hd
    obtain ⟨x2, r2, rfl, t2⟩ := M.tup d' hd'
    have hq' : Q (dataLt (.tuple (x1 :: r1)) (.tuple (x2 :: r2))) s := hq
    rw [dataLt_tuple] at hq'
    cases ra with
    | @tuple l o xs n _ _ h1 h2 h3 h4 =>
      cases rb with
      | @tuple l' o' xs' n' _ _ k1 k2 k3 k4 =>
        have n1 : xs.size = (x1 :: r1).length := by simpa using SeqAt.ReadsAll.length _ _ _ h4
        have n2 : xs'.size = (x2 :: r2).length := by simpa using SeqAt.ReadsAll.length _ _ _ k4
        refine kat_lt h1 h3 k1 k3 (katLex_R1 (x1 :: r1) (x2 :: r2) 0 _ _ _ _ h4 k4 (M.cmp _ _ hd hd') (M.lay _ hd) (M.lay _ hd') (by have q := SeqAt.room_in hroom; omega) (fun hb _ x r t ex => ?_) (by rw [n1, n2]) hq')
        obtain ⟨rfl, rfl⟩ := List.cons.inj ex
        rw [← t1] at hb
        exact dataType_tuple hb t
  · obtain ⟨fs, t1, t2, t3⟩ := each_katTups e fun d hd => by
      obtain ⟨x, r, z, _⟩ := M.tup d hd
      exact ⟨x, r, z⟩
    refine kat_kind (T := T) t1 (by omega) (fun f hf => ?_) hT hq
    obtain ⟨x, r, as, m1, m2⟩ := t3 f hf
    obtain ⟨x', r', z, t⟩ := M.tup _ m1
    obtain ⟨rfl, rfl⟩ := List.cons.inj (PyData.tuple.inj z)
    rw [← t]
    exact looks_reads m2
end
section
variable {prog : Program} {w : World} {A : Around} {E : Value → Shared → Prop} {s : Shared} {β : Type} {vs : List Value} {bs : List β} {enc : β → PyData} {R : Value → β → Prop}
/-- sorted(xs) of such rows -/
theorem sorted_mix {l : Addr} {Q : Value → Shared → Prop} {T : Value} (hl : s.heap.IsList l vs.toArray) (e : EachIs R vs bs) (er : EachIs (fun v b => ∃ as, Reads s.heap v (enc b) as) vs bs) (M : Mix (bs.map enc) T) (hT : (T == T) = true) (hL : bs.length ≤ sizeLine)
    (hu : ∀ b, b ∈ bs → A.units + 2 + (enc b).depth < cLine) (h : ∀ out, out.length = bs.length → EachIs R out (bs.mergeSort (dataLe false enc)) → Q (.ref (s.heap.objs.size + 1)) { s with heap := sortedAll s.heap vs (List.toArray out) }) :
    wpAny (model prog w) A (call (.builtin "sorted") [.ref l]) Q E s := by
  have er' : EachIs (fun v b => ∃ as, Reads (sortingHeap (copyHeap s.heap vs) (s.heap.objs.size + 1) vs) v (enc b) as) vs bs := er.mono fun _ _ ⟨as, r⟩ => ⟨as, PyProof.Rows.Reads.keeps (fun _ _ => sorting_copy_old) r⟩
  have em := each_map (R := fun v d => ∃ as, Reads (sortingHeap (copyHeap s.heap vs) (s.heap.objs.size + 1) vs) v d as) enc er'
  exact sorted_vals hl (sorts_mix (s := { s with heap := sortingHeap (copyHeap s.heap vs) (s.heap.objs.size + 1) vs }) em M hT (bound_map hu)) (by rw [e.length]; exact hL)
    (h _ (by rw [sortVals_length false rfl]; exact e.length) (sortVals_each (κ := dataKind (sortingHeap (copyHeap s.heap vs) (s.heap.objs.size + 1) vs) (bs.map enc)) (fun b => keyToks (enc b)) e (each_of_map enc (mix_keys M em))))
end
section
variable {prog : Program} {w : World} {A : Around} {E : Value → Shared → Prop} {s : Shared} {a kS : Addr} {b : Bool} {vs : List Value} {keys : Array Value} {e e1 : Nat} {P : PySem.Fin → Shared → Prop} {kz : List PyData}
/-- what key= leaves -/
def MixOut (kz : List PyData) (vs out : List Value) : Prop := ∃ h ks, out = sortVals (dataKind h kz) false ks vs ∧ EachIs (fun v k => ∃ as, Reads h v k as) ks kz
theorem mix_rest {f : Value} {h₁ : Heap} {T : Value} (kp : KeepsBut a h₁ s.heap) (hkS : h₁.get? kS = none) (nk : s.heap.get? kS = some (seqObj "list" #[] 0)) (na : s.heap.get? a = some (seqObj "list" #[] e1)) (hka : kS ≠ a)
    (hlen : kz.length = vs.length) (hZ : vs.length ≤ sizeLine) (hal : ∀ d, d ∈ kz → alike d d = true) (M : Mix kz T) (hT : (T == T) = true) (hu : ∀ d, d ∈ kz → A.units + d.depth < cLine)
    (turn : ∀ (i : Nat) (v : Value) (k : PyData), vs[i]? = some v → kz[i]? = some k → ∀ (h : Heap) (tk : Nat), KeepsBut a h₁ h →
      wpAny (model prog w) A (call f [v]) (KeyPure k { s with heap := h, toks := tk }) (fun _ _ => False) { s with heap := h, toks := tk })
    (h : ∀ h' tk out c, KeepsBut a h₁ h' → h'.get? a = some (seqObj "list" (List.toArray out) c) → MixOut kz vs out → P (.done (.ret .none)) { s with heap := h', toks := tk }) :
    wpAny (model prog w) A (ksk_rest a f false vs.toArray e1 (.ref kS)) P E s := by
  unfold ksk_rest
  refine wpAny_bind (wpAny_rule ?_)
  first
    | rw [List.forIn_toArray]
    | (rw [← Array.forIn_toList]; simp only [List.toList_toArray])
    | rw [← Array.forIn_toList]
  refine wpAny_bind (ksk_fold (fun i s' => ∃ h' tk kA e, s' = { s with heap := h', toks := tk } ∧ KeepsBut a h₁ h' ∧ h'.get? kS = some (seqObj "list" kA e) ∧ h'.get? a = some (seqObj "list" #[] e1) ∧ EachIs (fun v k => Reads h' v k [] ∧ alike k k = true) kA.toList (kz.take i)) vs 0 s
    ⟨s.heap, s.toks, #[], 0, rfl, kp, nk, na, by rw [List.take_zero]; exact EachIs.nil⟩ ?step ?done)
  case step =>
    rintro j x s' hx ⟨h', tk, kA, e, rfl, kp', nk', na', hk⟩
    simp only [Nat.zero_add] at hk ⊢
    have hj : j < vs.length := (List.getElem?_eq_some_iff.mp hx).1
    obtain ⟨k, hkj⟩ : ∃ k, kz[j]? = some k := ⟨_, List.getElem?_eq_getElem (by omega)⟩
    have hkk : alike k k = true := hal k (List.mem_of_getElem? hkj)
    have hz : kA.size ≤ vs.length := by
      have h1 := hk.length
      rw [Array.length_toList, List.length_take] at h1
      omega
    refine wpAny_bind (wpAny_attempt (wpAny_mono (turn j x k hx hkj h' tk kp') (fun v s'' he => ?_) fun _ _ hF => hF.elim))
    obtain ⟨g, tk2, rfl, hg, hr⟩ := he
    try dsimp only
    have nk2 : g.get? kS = some (seqObj "list" kA e) := hg _ _ nk'
    have na2 : g.get? a = some (seqObj "list" #[] e1) := hg _ _ na'
    have s1 := Heap.SameBut.update g kS (Obj.mapSeq (·.push v))
    obtain ⟨c2, hc2⟩ : ∃ c2, (g.update kS (Obj.mapSeq (·.push v))).get? kS = some (seqObj "list" (kA.push v) c2) := ⟨_, get?_update_seq nk2 (·.push v)⟩
    have ek : kz.take (j + 1) = kz.take j ++ [k] := by rw [List.take_add_one, hkj]; simp
    have ea : (kA.push v).toList = kA.toList ++ [v] := by simp
    refine wpAny_bind (listUpdate_at nk2 rfl ?_ (Nat.le_trans hz hZ) (Nat.le_trans (Nat.le_of_eq (Array.size_push ..)) (Nat.succ_le_succ (Nat.le_trans hz hZ))))
    have keepS : ∀ (u : Value) (d : PyData), Reads g u d [] ∧ alike d d = true → Reads (g.update kS (Obj.mapSeq (·.push v))) u d [] ∧ alike d d = true := fun u d q =>
      ⟨Reads.keepBut (a := kS) (fun b o hb e => (s1.2 b hb).trans e) (fun o e => by rw [nk2] at e; rw [← Option.some.inj e]) d u [] q.2 q.1 (by simp), q.2⟩
    refine wpAny_pure ⟨rfl, _, _, kA.push v, c2, rfl, (kp'.trans_all hg).same s1 (.inr hkS), hc2, (s1.2 a hka.symm).trans na2, ?_⟩
    rw [ea, ek]
    refine each_snoc (R := fun (u : Value) (d : PyData) => Reads (g.update kS (Obj.mapSeq (·.push v))) u d [] ∧ alike d d = true) (keepS v k ⟨hr, hkk⟩) ?_
    exact hk.mono fun u d q => keepS u d ⟨PyProof.Rows.Reads.keeps hg q.1, q.2⟩
  case done =>
    rintro s' ⟨h', tk, kA, e, rfl, kp', nk', na', hk⟩
    have hk' : EachIs (fun v k => ∃ as, Reads h' v k as) kA.toList kz := by
      have e3 : kz.take (0 + vs.length) = kz := List.take_of_length_le (by omega)
      rw [e3] at hk
      exact hk.mono fun v k q => ⟨[], q.1⟩
    have hsz : kA.size = vs.length := by
      have h1 := hk'.length
      rw [Array.length_toList] at h1
      omega
    try dsimp only
    refine wpAny_bind (listItems_at nk' rfl ?_)
    exact keyH_end (κ := dataKind h' kz) (h₁ := h₁) kp' hkS nk' na' hka (sorts_mix (s := { s with heap := h', toks := tk }) hk' M hT hu) hsz hZ fun h3 tk3 c k3 n3 => h h3 tk3 _ c k3 n3 ⟨h', kA.toList, rfl, hk'⟩
theorem mix_tree {f : Value} {n : Nat} {T : Value} (ho : s.heap.get? a = some (seqObj "list" vs.toArray n)) (hlen : kz.length = vs.length) (hZ : vs.length ≤ sizeLine) (hal : ∀ d, d ∈ kz → alike d d = true) (M : Mix kz T) (hT : (T == T) = true) (hu : ∀ d, d ∈ kz → A.units + d.depth < cLine)
    (turn : ∀ (i : Nat) (v : Value) (k : PyData), vs[i]? = some v → kz[i]? = some k → ∀ (h : Heap) (tk : Nat), KeepsBut a s.heap h →
      wpAny (model prog w) A (call f [v]) (KeyPure k { s with heap := h, toks := tk }) (fun _ _ => False) { s with heap := h, toks := tk })
    (h : ∀ h' tk out c, KeepsBut a s.heap h' → h'.get? a = some (seqObj "list" (List.toArray out) c) → MixOut kz vs out → P (.done (.ret .none)) { s with heap := h', toks := tk }) :
    wpAny (model prog w) A (ksk_tree a f false) P E s := by
  have ha : a < s.heap.objs.size := Heap.lt_size ho
  obtain ⟨e1, ho1⟩ : ∃ e1, (s.heap.update a (Obj.mapSeq fun _ => (#[] : Array Value))).get? a = some (seqObj "list" #[] e1) := ⟨_, get?_update_seq ho fun _ => #[]⟩
  have hkS : ((s.heap.update a (Obj.mapSeq fun _ => (#[] : Array Value))).push (seqObj "tuple" vs.toArray 0)).objs.size = s.heap.objs.size + 1 := by rw [size_push', Heap.size_update]
  unfold ksk_tree
  refine wpAny_bind (listItems_at ho rfl ?_)
  refine wpAny_bind (listUpdate_at ho rfl ?_ (by rw [List.size_toArray]; exact hZ) (Nat.zero_le _))
  refine wpAny_bind (seqEpoch_at ho1 rfl ?_)
  refine wpAny_bind (wpAny_newTuple ?_ (by show vs.length ≤ _; exact hZ))
  refine wpAny_bind (wpAny_newList ?_ (Nat.zero_le _))
  refine wpAny_holding ?_
  have kp : KeepsBut a s.heap (sortingHeap s.heap a vs) := fun b o hb q => sortingHeap_old hb q
  refine mix_rest (kz := kz) (h₁ := s.heap) (s := { s with heap := ((s.heap.update a (Obj.mapSeq fun _ => (#[] : Array Value))).push (seqObj "tuple" vs.toArray 0)).push (seqObj "list" #[] 0) }) (kS := ((s.heap.update a (Obj.mapSeq fun _ => (#[] : Array Value))).push (seqObj "tuple" vs.toArray 0)).objs.size)
    kp (Heap.get?_none_of_le (by rw [hkS]; exact Nat.le_succ _)) (Heap.get?_push_size _ rfl) (Heap.get?_push_of_some _ (Heap.get?_push_of_some _ ho1)) (by rw [hkS]; exact Nat.ne_of_gt (Nat.lt_succ_of_lt ha)) hlen hZ hal M hT hu turn h
end
section
variable {prog : Program} {w : World} {A : Around} {E : Value → Shared → Prop} {s : Shared} {β : Type} {vs : List Value} {bs : List β} {R : Value → β → Prop}
/-- sorted(xs, key=f) where the keys are such rows -/
theorem sorted_key_mix {l : Addr} {f : Value} {kw : List (Str × Value)} {Q : Value → Shared → Prop} {T : Value} (k : β → PyData) (hl : s.heap.IsList l vs.toArray) (e : EachIs R vs bs) (hal : ∀ d, d ∈ bs.map k → alike d d = true) (M : Mix (bs.map k) T) (hT : (T == T) = true) (hL : bs.length ≤ sizeLine)
    (hu : ∀ x, x ∈ bs → A.units + 2 + (k x).depth < cLine) (ha1 : argsOk "sorted" ⟨[.ref l], kw⟩) (ha2 : ∀ x, argsOk "list.sort" ⟨[.ref x], kw⟩) (ht : ∀ x, Builtin.«list.sort» ⟨[.ref x], kw⟩ = ksk_tree x f false)
    (turn : ∀ (v : Value) (x : β), R v x → x ∈ bs → ∀ (h : Heap) (tk : Nat), (∀ b o, s.heap.get? b = some o → h.get? b = some o) →
      wpAny (model prog w) A.in1.in1 (call f [v]) (KeyPure (k x) { s with heap := h, toks := tk }) (fun _ _ => False) { s with heap := h, toks := tk })
    (h : ∀ out c h' tk, (∀ b o, s.heap.get? b = some o → h'.get? b = some o) → s.heap.get? (s.heap.objs.size + 1) = none → h'.get? (s.heap.objs.size + 1) = some (seqObj "list" (List.toArray out) c) → out.length = bs.length → EachIs R out (bs.mergeSort (dataLe false k)) →
      Q (.ref (s.heap.objs.size + 1)) { s with heap := h', toks := tk }) :
    wpAny (model prog w) A (call (.builtin "sorted") [.ref l] kw) Q E s := by
  have fresh : s.heap.get? (s.heap.objs.size + 1) = none := Heap.get?_none_of_le (Nat.le_succ _)
  have up : ∀ {g : Heap}, KeepsBut (s.heap.objs.size + 1) (copyHeap s.heap vs) g → ∀ b o, s.heap.get? b = some o → g.get? b = some o := fun {g} kp b o q =>
    kp b o (Nat.ne_of_lt (Nat.lt_succ_of_lt (Heap.lt_size q))) (copyHeap_old q)
  refine sorted_of_sort hl (by rw [e.length]; exact hL) ha1 ha2 fun E' => ?_
  rw [ht]
  refine mix_tree (kz := bs.map k) (s := { s with heap := copyHeap s.heap vs }) (copyHeap_at s.heap vs) (by rw [List.length_map]; exact e.length.symm) (by rw [e.length]; exact hL) hal M hT (bound_map (A := A.in1.in1) hu)
    (keyH_turns (s := { s with heap := copyHeap s.heap vs }) e fun v x hR hx h tk kp => turn v x hR hx h tk (up kp)) fun h' tk out c kp hD ko => ⟨rfl, ?_⟩
  obtain ⟨hp, ks, rfl, hk⟩ := ko
  have hl2 : ks.length = vs.length := by rw [hk.length, List.length_map, e.length]
  exact h _ c h' tk (up kp) fresh hD (by rw [sortVals_length false hl2]; exact e.length) (sortVals_each (κ := dataKind hp (bs.map k)) (fun b => keyToks (k b)) e (each_of_map k (mix_keys M hk)))
end
end DR

namespace DR
open PySem PySem.Spec PyProof.Rows L2
/-! ### the text by places -/
def topS (i : Nat) : Stmt := PySem.Challenge.pw_loadanywhere_k04_words_laid.main.body.getD i (.Pass ⟨0, 0, 0, 0⟩)
/-- a def of the text that stands at a global name and keeps its promise -/
structure Has (P : Program) (w : World) (K : PySem.W.Frag) (mg : Str → Option Value) (base : Heap) (CX : CXT) (k : Nat) (x : Str) (ps : List Str) (sp : Sp) : Prop where
  ex : ∃ (f : Addr) (fd : FuncData), mg x = some (.ref f) ∧ PySem.W.keepIn K (.ref f) = true ∧ Binds K fd ps [] ∧ FnOk P w K mg base CX k f fd ps sp
theorem Has.mono {P : Program} {w : World} {K : PySem.W.Frag} {mg : Str → Option Value} {base : Heap} {CX : CXT} {j k : Nat} {x : Str} {ps : List Str} {sp : Sp} (h : Has P w K mg base CX j x ps sp) (l : j ≤ k) : Has P w K mg base CX k x ps sp := by
  obtain ⟨f, fd, a, b, c, d⟩ := h.ex
  exact ⟨f, fd, a, b, c, d.mono l⟩
section
variable {X : Cx} {CX : CXT} {k : Nat} {ps : List Str} {sp : Sp} {E : XK} {x : Str} {p pos : Pos} {e : Expr} {es : List Expr} {t : TA}
theorem pe_callH (F : Has X.prog X.w X.K X.mg X.base CX k x ps sp) (hr : Room k X.A) (hg : Gl X x) (hx : Passes CX X E)
    (ha : PA X (e :: es) t) (hdb : (x == ("__debug__" : Str)) = false := by decide) (he : starEach (e :: es) X.env = (false, eval e X.env) :: starEach es X.env := by rfl) (hpl : (backTo pos (starEach es X.env)).any (·.1) = false := by rfl) :
    PE X (.Call (.Name x p) (e :: es) [] pos) (tCall sp [] E t) := by
  obtain ⟨f, fd, a, b, c, d⟩ := F.ex
  exact pe_call d hr hg a b c .nil hx ha hdb he hpl
end
/-- the names of built-ins that the law and the program ask -/
structure Bi (mg : Str → Option Value) : Prop where
  len : mg "len" = none
  int : mg "int" = none
  str : mg "str" = none
  bool : mg "bool" = none
  list : mg "list" = none
  tuple : mg "tuple" = none
  isinstance : mg "isinstance" = none
  all : mg "all" = none
  sorted : mg "sorted" = none
  range : mg "range" = none
  enumerate : mg "enumerate" = none
  zip : mg "zip" = none
  dict : mg "dict" = none
  min : mg "min" = none
  set : mg "set" = none
end DR

namespace DR
open PySem PySem.Spec PyProof.Rows L2
/-! ### things: data, and the empty dict -/
theorem rd_same {H H' : Hp} {a : Addr} {u : HO} (e : Same H H') (h : Rd H a u) : Rd H' a u := by
  rcases h with h | ⟨o, h⟩
  · exact .inl (e _ _ h)
  · exact .inr ⟨o, e _ _ h⟩
theorem sqL_same {K : PySem.W.Frag} {H H' : Hp} {a : Addr} {xs : List V} (e : Same H H') (h : SqL K H a xs) : SqL K H' a xs := e.seq h
theorem sqT_same {K : PySem.W.Frag} {H H' : Hp} {a : Addr} {xs : List V} (e : Same H H') (h : SqT K H a xs) : SqT K H' a xs := by
  rcases h with h | h
  · exact .inl (rd_same e h)
  · exact .inr h
mutual
theorem dp_same {K : PySem.W.Frag} {H H' : Hp} (e : Same H H') : ∀ {v : V} {d : PyData}, Dp K H v d → Dp K H' v d
  | _, _, .non => .non
  | _, _, .bl b => .bl b
  | _, _, .int i => .int i
  | _, _, .str x => .str x
  | _, _, .lst s a => .lst (sqL_same e s) (dps_same e a)
  | _, _, .tup s a => .tup (sqT_same e s) (dps_same e a)
theorem dps_same {K : PySem.W.Frag} {H H' : Hp} (e : Same H H') : ∀ {vs : List V} {ds : List PyData}, DpAll K H vs ds → DpAll K H' vs ds
  | _, _, .nil => .nil
  | _, _, .cons h t => .cons (dp_same e h) (dps_same e t)
end
theorem same_new {H : Hp} {p : Addr} {o : HO} (h : H p = none) : Same H (upd H p o) := fun b x e => by
  rw [upd_ne (ne_of_none e h)]
  exact e
/-- data, or a dict -/
inductive Th (K : PySem.W.Frag) (H : Hp) : V → PyData → Prop
  | dat {v : V} {d : PyData} : Dp K H v d → Th K H v d
  | dct {a : Addr} {kvs : List (Key × V)} : H a = some (.dK kvs) → Th K H (.ref a) (.dict [])
theorem th_same {K : PySem.W.Frag} {H H' : Hp} (e : Same H H') {v : V} {d : PyData} : Th K H v d → Th K H' v d
  | .dat h => .dat (dp_same e h)
  | .dct h => .dct (e _ _ h)
def tyN : PyData → String
  | .none => "NoneType"
  | .bool _ => "bool"
  | .int _ => "int"
  | .str _ => "str"
  | .list _ => "list"
  | .tuple _ => "tuple"
  | .dict _ => "dict"
theorem ty_list {K : PySem.W.Frag} {H : Hp} {a : Addr} {xs : List V} (h : SqL K H a xs) : TyX K H (.ref a) (.type "list") := by
  rcases h with (h | ⟨o, h⟩) | ⟨o, its, n, h, c, _⟩
  · exact .base (.lst h)
  · exact .base (.frz h)
  · exact .kList h c
theorem ty_tup {K : PySem.W.Frag} {H : Hp} {a : Addr} {xs : List V} (h : SqT K H a xs) : TyX K H (.ref a) (.type "tuple") := by
  rcases h with (h | ⟨o, h⟩) | ⟨o, its, n, h, c, _⟩
  · exact .base (.tup h)
  · exact .fTuple h
  · exact .kTuple h c
theorem th_ty {K : PySem.W.Frag} {H : Hp} {v : V} {d : PyData} (h : Th K H v d) : TyX K H v (.type (tyN d)) := by
  cases h with
  | dct h => exact .base (.dK h)
  | dat h =>
    cases h with
    | non => exact .base .non
    | bl b => exact .base (.bl b)
    | int i => exact .base (.int i)
    | str x => exact .base (.str x)
    | lst s _ => exact ty_list s
    | tup s _ => exact ty_tup s
def isI : PyData → Bool
  | .int _ => true
  | _ => false
def isIB : PyData → Bool
  | .int _ => true
  | .bool _ => true
  | _ => false
def isB : PyData → Bool
  | .bool _ => true
  | _ => false
def isS : PyData → Bool
  | .str _ => true
  | _ => false
def isR : PyData → Bool
  | .list _ => true
  | .tuple _ => true
  | _ => false
def tyNs : List String := ["NoneType", "bool", "int", "str", "list", "tuple", "dict"]
theorem tyN_mem (d : PyData) : tyN d ∈ tyNs := by cases d <;> simp [tyN, tyNs]
theorem kb_int : ∀ n ∈ tyNs, kitB n "int" = some (n == "int" || n == "bool") := by decide +kernel
theorem kb_bool : ∀ n ∈ tyNs, kitB n "bool" = some (n == "bool") := by decide +kernel
theorem kb_str : ∀ n ∈ tyNs, kitB n "str" = some (n == "str") := by decide +kernel
theorem kb_list : ∀ n ∈ tyNs, kitB n "list" = some (n == "list") := by decide +kernel
theorem kb_tup : ∀ n ∈ tyNs, kitB n "tuple" = some (n == "tuple") := by decide +kernel
theorem kit_int {K : PySem.W.Frag} (d : PyData) : PySem.W.kitOne K (.type (tyN d)) (.type "int") = some (isIB d) := by
  have h := kb_int _ (tyN_mem d)
  have e : (tyN d == "int" || tyN d == "bool") = isIB d := by cases d <;> rfl
  rw [e] at h
  exact kit_ty h
theorem kit_bool {K : PySem.W.Frag} (d : PyData) : PySem.W.kitOne K (.type (tyN d)) (.type "bool") = some (isB d) := by
  have h := kb_bool _ (tyN_mem d)
  have e : (tyN d == "bool") = isB d := by cases d <;> rfl
  rw [e] at h
  exact kit_ty h
theorem kit_str {K : PySem.W.Frag} (d : PyData) : PySem.W.kitOne K (.type (tyN d)) (.type "str") = some (isS d) := by
  have h := kb_str _ (tyN_mem d)
  have e : (tyN d == "str") = isS d := by cases d <;> rfl
  rw [e] at h
  exact kit_ty h
theorem kit_row {K : PySem.W.Frag} (d : PyData) : PySem.W.kitAny K (.type (tyN d)) [.type "list", .type "tuple"] = some (isR d) := by
  have h1 := kb_list _ (tyN_mem d)
  have h2 := kb_tup _ (tyN_mem d)
  refine kitAny_cons (kit_ty h1) (fun z => kitAny_cons (kit_ty h2) (fun z2 => ?_) fun z2 => ?_) fun z => ?_
  all_goals
    revert z
    try revert z2
    cases d <;> simp [tyN, isR, kitAny_nil]
/-- isinstance of a thing, one class -/
theorem isi1 {K : PySem.W.Frag} {H : Hp} {v : V} {d : PyData} {n : String} {b : Bool} {Q : VK} (h : Th K H v d) (k : PySem.W.kitOne K (.type (tyN d)) (.type n) = some b) (q : Q (.bl b) H) : rIsi K [v, .ty n] H Q :=
  ⟨v, .ty n, _, _, b, rfl, .ty n, th_ty h, k, q⟩
def spIsInt (K : PySem.W.Frag) : Sp := fun vs H Q _ => ∃ v d, vs = [v] ∧ Th K H v d ∧ Q (.bl (isI d)) H
def spIsRow (K : PySem.W.Frag) : Sp := fun vs H Q _ => ∃ v d, vs = [v] ∧ Th K H v d ∧ ∀ H', Same H H' → Q (.bl (isR d)) H'
/-- the items of a list or tuple -/
def items : PyData → Option (List PyData)
  | .list xs => some xs
  | .tuple xs => some xs
  | _ => none
def isRof (d : PyData) (n : Int) : Bool := match items d with
  | some xs => decide ((xs.length : Int) = n)
  | none => false
def spIsRowOf (K : PySem.W.Frag) : Sp := fun vs H Q _ => ∃ v d n, vs = [v, .int n] ∧ Th K H v d ∧ ∀ H', Same H H' → Q (.bl (isRof d n)) H'
theorem dps_len {K : PySem.W.Frag} {H : Hp} : ∀ {vs : List V} {ds : List PyData}, DpAll K H vs ds → vs.length = ds.length
  | _, _, .nil => rfl
  | _, _, .cons _ t => congrArg (· + 1) (dps_len t)
/-- a thing that is a row: its place and items -/
theorem th_row {K : PySem.W.Frag} {H : Hp} {v : V} {d : PyData} (h : Th K H v d) {ds : List PyData} (e : items d = some ds) : ∃ a xs, v = .ref a ∧ (SqL K H a xs ∨ SqT K H a xs) ∧ DpAll K H xs ds := by
  cases h with
  | dct h => cases e
  | dat h =>
    cases h with
    | non => cases e
    | bl b => cases e
    | int i => cases e
    | str x => cases e
    | lst s t =>
      cases e
      exact ⟨_, _, rfl, .inl s, t⟩
    | tup s t =>
      cases e
      exact ⟨_, _, rfl, .inr s, t⟩
theorem isR_items (d : PyData) : isR d = (items d).isSome := by cases d <;> rfl
abbrev sIsInt : Stmt := topS 10
abbrev sIsRow : Stmt := topS 11
abbrev sIsRowOf : Stmt := topS 12
abbrev sIsName : Stmt := topS 13
theorem scIsInt : FnScope ["thing"] ["thing"] (defScope sIsInt) := ⟨rfl, rfl, rfl, by decide +kernel, rfl, by decide +kernel, by decide +kernel⟩
theorem scIsRow : FnScope ["thing"] ["thing"] (defScope sIsRow) := ⟨rfl, rfl, rfl, by decide +kernel, rfl, by decide +kernel, by decide +kernel⟩
theorem scIsRowOf : FnScope ["thing", "many"] ["thing", "many"] (defScope sIsRowOf) := ⟨rfl, rfl, rfl, by decide +kernel, rfl, by decide +kernel, by decide +kernel⟩
theorem scIsName : FnScope ["thing", "letter"] ["thing"] (defScope sIsName) := ⟨rfl, rfl, rfl, by decide +kernel, rfl, by decide +kernel, by decide +kernel⟩
def lettersS : Str := "abcdefghijklmnopqrstuvwxyz"
def isNmS (s : Str) : Bool := decide (1 ≤ (s.length : Int)) && (decide ((s.length : Int) ≤ 8) && s.cps.toList.all fun c => decide (c ∈ lettersS.cps.toList))
def isNm : PyData → Bool
  | .str s => isNmS s
  | _ => false
/-- a thing whose text, if it is one, is not too long -/
def shortS : PyData → Prop
  | .str s => s.length ≤ 1000
  | _ => True
def spIsName (K : PySem.W.Frag) : Sp := fun vs H Q _ => ∃ v d, vs = [v] ∧ Th K H v d ∧ shortS d ∧ ∀ H', Same H H' → Q (.bl (isNm d)) H'
section
variable {P : Program} {w : World} {K : PySem.W.Frag} {mg : Str → Option Value} {base : Heap}
theorem ok_isInt {f : Addr} {fd : FuncData} (F : Fun K "is_integer" "is_integer" sIsInt f fd) (T : Bi mg) : FnOk P w K mg base CX0 1 f fd ["thing"] (spIsInt K) := by
  refine F.ok scIsInt (fun vs H Q E h => ?_) (fun cdv A outer s H vs Q E hr h => ?_)
  · obtain ⟨v, d, rfl, _⟩ := h
    rfl
  · obtain ⟨v, d, rfl, th, q⟩ := h
    refine ⟨_, (pss_one (ps_ret (pe_and (pe_callB call_isi (by rfl) T.isinstance (by decide +kernel) (pa_cons (pv 0) (pa_cons (pe_bltn (v := .ty "int") (by rfl) T.int (by decide +kernel) rfl) pa_nil))) (pe_one (pe_not (pe_callB call_isi (by rfl) T.isinstance (by decide +kernel) (pa_cons (pv 0) (pa_cons (pe_bltn (v := .ty "bool") (by rfl) T.bool (by decide +kernel) rfl) pa_nil)))))))), ?_⟩
    refine ⟨_, rfl, v, _, _, _, _, rfl, .ty "int", th_ty th, kit_int d, _, rfl, ?_⟩
    cases e : isIB d with
    | false =>
      refine iteF ?_
      have z : isI d = false := by cases d <;> first | rfl | cases e
      rw [z] at q
      exact q
    | true =>
      refine iteT ⟨_, rfl, v, _, _, _, _, rfl, .ty "bool", th_ty th, kit_bool d, _, rfl, ?_⟩
      have z : isI d = !isB d := by cases d <;> first | rfl | cases e
      rw [z] at q
      exact q
theorem ok_isRow {f : Addr} {fd : FuncData} (F : Fun K "is_row" "is_row" sIsRow f fd) (T : Bi mg) : FnOk P w K mg base CX0 1 f fd ["thing"] (spIsRow K) := by
  refine F.ok scIsRow (fun vs H Q E h => ?_) (fun cdv A outer s H vs Q E hr h => ?_)
  · obtain ⟨v, d, rfl, _⟩ := h
    rfl
  · obtain ⟨v, d, rfl, th, q⟩ := h
    refine ⟨_, (pss_one (ps_ret (pe_callB call_isiT (by rfl) T.isinstance (by decide +kernel) (pa_cons (pv 0) (pa_cons (pe_tup (pa_cons (pe_bltn (v := .ty "list") (by rfl) T.list (by decide +kernel) rfl) (pa_cons (pe_bltn (v := .ty "tuple") (by rfl) T.tuple (by decide +kernel) rfl) pa_nil))) pa_nil))))), ?_⟩
    refine ⟨_, rfl, (by show 2 ≤ sizeLine; decide), fun p hp => ?_⟩
    refine ⟨v, p, _, _, _, _, rfl, upd_same, .cons (.ty "list") (.cons (.ty "tuple") .nil), th_ty (th_same (same_new hp) th), kit_row d, q _ (same_new hp)⟩
theorem ok_isRowOf {f : Addr} {fd : FuncData} (F : Fun K "is_row_of" "is_row_of" sIsRowOf f fd) (T : Bi mg) (G : Has P w K mg base CX0 1 "is_row" ["thing"] (spIsRow K)) : FnOk P w K mg base CX0 2 f fd ["thing", "many"] (spIsRowOf K) := by
  refine F.ok scIsRowOf (fun vs H Q E h => ?_) (fun cdv A outer s H vs Q E hr h => ?_)
  · obtain ⟨v, d, n, rfl, _⟩ := h
    rfl
  · obtain ⟨v, d, n, rfl, th, q⟩ := h
    refine ⟨_, (pss_one (ps_ret (pe_and (pe_callH G hr (by rfl) pass0 (pa_cons (pv 0) pa_nil)) (pe_one (pe_cmpR op_eq (pe_callB call_len_seq (by rfl) T.len (by decide +kernel) (pa_cons (pv 0) pa_nil)) (pv 1) (nomark _)))))), ?_⟩
    refine ⟨_, rfl, v, d, rfl, th, fun H' sm => ⟨_, rfl, ?_⟩⟩
    rw [isR_items]
    have q' := q H' sm
    unfold isRof at q'
    cases e : items d with
    | none =>
      rw [e] at q'
      exact iteF q'
    | some ds =>
      rw [e] at q'
      obtain ⟨a, xs, rfl, hs, ha⟩ := th_row (th_same sm th) e
      refine iteT ⟨_, rfl, a, xs, rfl, hs, _, rfl, rfl, ?_⟩
      rw [dps_len ha]
      have z : decide (V.int (ds.length : Int) = V.int n) = decide ((ds.length : Int) = n) := by
        by_cases c : (ds.length : Int) = n
        · rw [c]; simp
        · rw [decide_eq_false c]
          exact decide_eq_false fun z => c (V.int.inj z)
      rw [z]
      exact q'
theorem yes_go {σ : L2.St} {H : Hp} {F : Bool → Hp → Prop} (h : F true H) : tYes σ H F := h
theorem ok_isName {f : Addr} {fd : FuncData} {t : Tok} (F : Fun K "is_name" "is_name" sIsName f fd) (T : Bi mg) (gL : mg "LETTERS" = some (.str lettersS t)) : FnOk P w K mg base CX0 1 f fd ["thing"] (spIsName K) := by
  refine F.ok scIsName (fun vs H Q E h => ?_) (fun cdv A outer s H vs Q E hr h => ?_)
  · obtain ⟨v, d, rfl, _⟩ := h
    rfl
  · obtain ⟨v, d, rfl, th, sh, q⟩ := h
    refine ⟨_, (pss_cons (ps_if (PW.pt (pw_or (pt_not (pt_val (pe_callB call_isi (by rfl) T.isinstance (by decide +kernel) (pa_cons (pv 0) (pa_cons (pe_bltn (v := .ty "str") (by rfl) T.str (by decide +kernel) rfl) pa_nil))))) (pw_or1 (pt_not (pt_chain op_le op_le pe_int (pe_callB call_len_str (by rfl) T.len (by decide +kernel) (pa_cons (pv 0) pa_nil)) pe_int))))) (pss_one (ps_ret pe_bl)) pss_nil)
      (pss_one (ps_ret (pe_callB (cr_all rfl) (by rfl) T.all (by decide +kernel) (pa_cons (pe_lc (own := [("letter", 1)]) (g := gName 1) (tt := tYes) rfl scIsName.nd (pi_str (pv 0)) (blkOk_by (N := ["thing", "letter"]) (sc := defScope sIsName) (by decide +kernel)) (fun _ _ _ _ _ => pg_name (i := 1) scIsName.nd rfl (.inl rfl)) (fun _ _ _ _ _ => pts_nil) (fun _ _ _ _ _ => (pe_cmpR op_in_sign (pv 1) (pe_glob (v := .str lettersS) rfl gL ⟨_, rfl⟩) (by rfl)))) pa_nil))))), ?_⟩
    refine ⟨_, rfl, v, _, _, _, _, rfl, .ty "str", th_ty th, kit_str d, _, rfl, ?_⟩
    cases d with
    | str s =>
      obtain rfl : v = .str s := by
        cases th with
        | dat h => cases h; rfl
      have hl : s.length ≤ sizeLine := Nat.le_trans sh (by decide)
      refine iteF ⟨_, rfl, s, rfl, hl, _, _, rfl, rfl, _, rfl, ?_⟩
      have q0 : Q (.bl (isNmS s)) H := q H (Same.refl H)
      unfold isNmS at q0
      cases c1 : decide (1 ≤ (s.length : Int)) with
      | false =>
        rw [c1] at q0
        exact iteF ⟨_, rfl, iteT q0⟩
      | true =>
        refine iteT ⟨_, _, rfl, rfl, _, rfl, ?_⟩
        cases c2 : decide ((s.length : Int) ≤ 8) with
        | false =>
          rw [c1, c2] at q0
          exact iteT q0
        | true =>
          refine iteF ⟨_, rfl, s, rfl, fun D hD => ?_⟩
          have e1 : (isNmS s) = s.cps.toList.all fun c => decide (c ∈ lettersS.cps.toList) := by
            unfold isNmS
            rw [c1, c2]
            rfl
          refine lc_it (walk_str (z := s)) (fun i H' => (∀ b o, b ≠ D → H b = some o → H' b = some o) ∧ H' D = some (.lst (((s.cps.toList.take i).map fun c => decide (c ∈ lettersS.cps.toList)).map V.bl))) ⟨fun b o hb e => by rw [upd_ne hb]; exact e, upd_same⟩ (fun _ _ _ _ => trivial) ?_ ?_
          · rintro i x H1 H2 hi ⟨kp, hd⟩ ⟨rfl, c, hc, rfl⟩
            have hc' : s.cps.toList[i]? = some c := by simpa using hc
            refine ⟨rfl, ?_⟩
            refine yes_go (iteT ?_)
            refine ⟨_, rfl, c, lettersS, rfl, rfl, _, hd, ?_, fun b o hb e => ?_, ?_⟩
            · rw [List.length_map, List.length_map, List.length_take]
              refine Nat.lt_of_le_of_lt (Nat.min_le_right _ _) (Nat.lt_of_le_of_lt (m := 1000) ?_ (by decide))
              have e2 : s.cps.toList.length = s.length := by simp [Str.length]
              have sh' : s.length ≤ 1000 := sh
              omega
            · rw [upd_ne hb]
              exact kp b o hb e
            · rw [upd_same, List.take_add_one, hc']
              simp
          · rintro H1 ⟨kp, hd⟩
            refine ⟨D, _, rfl, SqL.of hd, ?_⟩
            have e2 : s.cps.toList.take s.cps.size = s.cps.toList := by
              rw [← Array.length_toList]
              exact List.take_length
            have e3 : ((s.cps.toList.take s.cps.size).map fun c => decide (c ∈ lettersS.cps.toList)).all id = isNm (.str s) := by
              rw [e2, List.all_map]
              exact e1.symm
            rw [e3]
            exact q H1 fun b o e => kp b o (ne_of_none e hD) e
    | none => exact iteT (q H (Same.refl H))
    | bool b => exact iteT (q H (Same.refl H))
    | int i => exact iteT (q H (Same.refl H))
    | list xs => exact iteT (q H (Same.refl H))
    | tuple xs => exact iteT (q H (Same.refl H))
    | dict xs => exact iteT (q H (Same.refl H))
end
end DR

namespace DR
open PySem PySem.Spec PyProof.Rows L2
theorem at_of {xs : List V} {i : Nat} {v : V} (h : xs[i]? = some v) : atI xs (i : Int) = some v := by
  have hi : i < xs.length := (List.getElem?_eq_some_iff.mp h).1
  unfold atI ixN
  rw [if_pos (by omega), if_pos (by omega)]
  show xs[((i : Int)).toNat]? = _
  rw [Int.toNat_natCast]
  exact h
theorem at_last {xs : List V} {v : V} : atI (xs ++ [v]) (-1) = some v := by
  unfold atI ixN
  rw [if_neg (by omega), if_pos (by simp; omega)]
  show (xs ++ [v])[_]? = _
  have e : (-1 + ((xs ++ [v]).length : Int)).toNat = xs.length := by
    rw [List.length_append, List.length_singleton]
    omega
  rw [e]
  simp
theorem strEq (a b : Str) : decide (V.str a = V.str b) = decide (a = b) := by
  by_cases c : a = b
  · rw [c]; simp
  · rw [decide_eq_false c]
    exact decide_eq_false fun z => c (V.str.inj z)
theorem intEq (a b : Int) : decide (V.int a = V.int b) = decide (a = b) := by
  by_cases c : a = b
  · rw [c]; simp
  · rw [decide_eq_false c]
    exact decide_eq_false fun z => c (V.int.inj z)
theorem small1000 {n : Nat} (h : n ≤ 1000) : n < sizeLine := Nat.lt_of_le_of_lt h (by decide)
theorem same_upd {H H' : Hp} {p : Addr} {o : HO} (e : Same H H') (hp : H p = none) : Same H (upd H' p o) := fun b u hb => by
  rw [upd_ne (ne_of_none hb hp)]
  exact e _ _ hb
def SqE (K : PySem.W.Frag) (H : Hp) (a : Addr) (xs : List V) : Prop := SqL K H a xs ∨ SqT K H a xs
theorem sqE_same {K : PySem.W.Frag} {H H' : Hp} {a : Addr} {xs : List V} (e : Same H H') (h : SqE K H a xs) : SqE K H' a xs := h.imp (sqL_same e) (sqT_same e)
theorem cut_from {xs : List V} {r : Nat} (h : r ≤ xs.length) : cutV xs (some (r : Int)) none = xs.drop r := by
  unfold cutV
  rw [HT.sIx_none, HT.sIx_nat, Nat.min_eq_left h]
  rw [List.take_of_length_le (by rw [List.length_drop]; exact Nat.le_refl _)]
theorem cut_to {xs : List V} {r : Nat} (h : r ≤ xs.length) : cutV xs none (some (r : Int)) = xs.take r := by
  unfold cutV
  rw [HT.sIx_none, HT.sIx_nat, List.drop_zero, Nat.sub_zero, Nat.min_eq_left h]
theorem cut_1 (xs : List V) : cutV xs (some 1) none = xs.drop 1 := by
  cases xs with
  | nil => rfl
  | cons x xs => exact cut_from (r := 1) (by simp)
end DR

namespace DR
open PySem PySem.Spec PyProof.Rows L2
def sPiece : Str := "piece"
def sName : Str := "name"
def sIn : Str := "in"
def rank (z : Str) : Option Int := if z = sPiece then some 0 else if z = sName then some 1 else if z = sIn then some 2 else none
/-- the dict RANKS of the text -/
structure Ranks (K : PySem.W.Frag) (w : World) (mg : Str → Option Value) (d : Addr) : Prop where
  g : mg "RANKS" = some (.ref d)
  kd : ∃ es n, KDict K w d es n
  has : ∀ z i, rank z = some i → ∃ t, PySem.W.nsIn K d z = some (some (.int i t))
  no : ∀ z, rank z = none → PySem.W.nsIn K d z = some none
def ofKey (k : Str) (o : PyData) : Option Key := if k = sIn then (match o with
    | .int i => if 1 ≤ i then some (.inl i) else none
    | _ => none) else (match o with
    | .str s => if isNmS s = true then some (.inr s) else none
    | _ => none)
def unkOf (k : Str) (o : PyData) : Option (List Key) := (rank k).bind fun _ => (ofKey k o).map fun z => [.inr k, z]
def readUnk : PyData → Option (List Key)
  | .tuple [.str k, o] => unkOf k o
  | .list [.str k, o] => unkOf k o
  | _ => none
/-- texts in a pair are short -/
def shortP : PyData → Prop
  | .tuple [a, b] => shortS a ∧ shortS b
  | .list [a, b] => shortS a ∧ shortS b
  | _ => True
def UnkV (H : Hp) (v : V) : Option (List Key) → Prop
  | none => v = .non
  | some u => ∃ a, v = .ref a ∧ H a = some (.tup (u.map kV))
def spReadUnk (K : PySem.W.Frag) : Sp := fun vs H Q _ => ∃ v d, vs = [v] ∧ Th K H v d ∧ shortP d ∧ ∀ v' H', Same H H' → UnkV H' v' (readUnk d) → Q v' H'
abbrev sReadUnk : Stmt := topS 17
theorem scReadUnk : FnScope ["thing", "kind", "of", "right"] ["thing"] (defScope sReadUnk) := ⟨rfl, rfl, rfl, by decide +kernel, rfl, by decide +kernel, by decide +kernel⟩
theorem rank_in : rank sIn = some 2 := by decide +kernel
theorem eq_str (a b : Str) : decide (V.str a = V.str b) = decide (a = b) := by
  by_cases c : a = b
  · rw [c]; simp
  · rw [decide_eq_false c]
    exact decide_eq_false fun z => c (V.str.inj z)
theorem eq_int (a b : Int) : decide (V.int a = V.int b) = decide (a = b) := by
  by_cases c : a = b
  · rw [c]; simp
  · rw [decide_eq_false c]
    exact decide_eq_false fun z => c (V.int.inj z)
/-- two names from a list or a tuple -/
def gRow (K : PySem.W.Frag) (n : Nat) (t : TGs) : TG := fun v σ H Q => gTup K n t v σ H Q ∨ gLst K n t v σ H Q
theorem pg_row {X : Cx} {pos : Pos} {es : List Expr} {k : Nat} {t : TGs} {n : Nat} (hc : X.calm = true) (h : PGs X es t) (hn : (assignEach es X.env).length = n := by rfl) (hst : (assignEach es X.env).findIdx? (·.1) = none := by rfl) : PG X (.Tuple es k pos) (gRow X.K n t) :=
  ⟨fun pins s σ H v u Q I r hw => hw.elim (fun z => (pg_tup hc h hn hst).run pins s σ H v u Q I r z) fun z => (pg_lst hc h hn hst).run pins s σ H v u Q I r z⟩
theorem th_tup {K : PySem.W.Frag} {H : Hp} {v : V} {ds : List PyData} (h : Th K H v (.tuple ds)) : ∃ a xs, v = .ref a ∧ SqT K H a xs ∧ DpAll K H xs ds := by
  cases h with
  | dat h =>
    cases h with
    | tup s t => exact ⟨_, _, rfl, s, t⟩
section
variable {P : Program} {w : World} {K : PySem.W.Frag} {mg : Str → Option Value} {base : Heap}
theorem ok_readUnk {f d0 : Addr} {fd : FuncData} (F : Fun K "read_unknown" "read_unknown" sReadUnk f fd) (T : Bi mg) (R : Ranks K w mg d0) (G1 : Has P w K mg base CX0 2 "is_row_of" ["thing", "many"] (spIsRowOf K))
    (G2 : Has P w K mg base CX0 2 "is_integer" ["thing"] (spIsInt K)) (G3 : Has P w K mg base CX0 2 "is_name" ["thing"] (spIsName K)) : FnOk P w K mg base CX0 3 f fd ["thing"] (spReadUnk K) := by
  refine F.ok scReadUnk (fun vs H Q E h => ?_) (fun cdv A outer s H vs Q E hr h => ?_)
  · obtain ⟨v, d, rfl, _⟩ := h
    rfl
  · obtain ⟨v, d, rfl, th, sh, q⟩ := h
    obtain ⟨es, n, kd⟩ := R.kd
    refine ⟨_, (pss_cons (ps_if (pt_not (pt_val (pe_callH G1 hr (by rfl) pass0 (pa_cons (pv 0) (pa_cons pe_int pa_nil))))) (pss_one (ps_ret pe_non)) pss_nil)
      (pss_cons (ps_asg (pv 0) (pg_row rfl (pgs_cons (pg_name (i := 1) scReadUnk.nd rfl (.inl rfl)) (pgs_cons (pg_name (i := 2) scReadUnk.nd rfl (.inl rfl)) pgs_nil))))
      (pss_cons (ps_if (PW.pt (pw_or (pt_not (pt_val (pe_callB call_isi (by rfl) T.isinstance (by decide +kernel) (pa_cons (pv 1) (pa_cons (pe_bltn (v := .ty "str") (by rfl) T.str (by decide +kernel) rfl) pa_nil))))) (pw_or1 (pt_cmpR (op_notIn_kd kd) (pv 1) (pe_glob (v := .ref d0) rfl R.g rfl) (by rfl))))) (pss_one (ps_ret pe_non)) pss_nil)
      (pss_cons (ps_if (pt_cmpR op_eq (pv 1) pe_str (nomark _)) (pss_one (ps_set (i := 3) scReadUnk.nd rfl (.inl rfl) (pe_and (pe_callH G2 hr (by rfl) pass0 (pa_cons (pv 2) pa_nil)) (pe_one (pe_cmpR op_ge (pv 2) pe_int (nomark _)))))) (pss_one (ps_set (i := 3) scReadUnk.nd rfl (.inl rfl) (pe_callH G3 hr (by rfl) pass0 (pa_cons (pv 2) pa_nil)))))
      (pss_one (ps_ret (pe_ifExp (pt_val (pv 3)) (pe_tup (pa_cons (pv 1) (pa_cons (pv 2) pa_nil))) pe_non))))))), ?_⟩
    refine ⟨_, rfl, v, d, 2, rfl, th, fun H1 sm1 => ⟨_, rfl, ?_⟩⟩
    have th1 := th_same sm1 th
    cases e : isRof d 2 with
    | false =>
      refine iteT ?_
      refine q _ _ sm1 ?_
      have z : readUnk d = none := by
        unfold readUnk
        split
        · rename_i k o
          revert e
          simp [isRof, items]
        · rename_i k o
          revert e
          simp [isRof, items]
        · rfl
      rw [z]
      rfl
    | true =>
      refine iteF ?_
      obtain ⟨x, y, ei, er, shp⟩ : ∃ x y, items d = some [x, y] ∧ (∀ o, readUnk (.tuple [x, y]) = o → readUnk d = o) ∧ (shortS x ∧ shortS y) := by
        have two : ∀ {xs : List PyData}, ((xs.length : Int) = 2) → ∃ x y, xs = [x, y] := fun {xs} e' => by
          match xs, e' with
          | [x, y], _ => exact ⟨x, y, rfl⟩
          | [], z => exact absurd z (by decide)
          | [_], z => exact absurd z (by simp)
          | _ :: _ :: _ :: _, z => simp at z; omega
        unfold isRof at e
        cases d with
        | tuple xs =>
          obtain ⟨x, y, rfl⟩ := two (of_decide_eq_true e)
          exact ⟨x, y, rfl, fun o h => h, sh⟩
        | list xs =>
          obtain ⟨x, y, rfl⟩ := two (of_decide_eq_true e)
          refine ⟨x, y, rfl, fun o h => ?_, sh⟩
          rw [← h]
          unfold readUnk
          cases x <;> rfl
        | none => cases e
        | bool b => cases e
        | int i => cases e
        | str s => cases e
        | dict k => cases e
      obtain ⟨a, xs, rfl, hs, ha⟩ := th_row th1 ei
      cases ha with
      | cons h1 h2 =>
      cases h2 with
      | cons h2 h3 =>
      cases h3
      rename_i v1 v2
      have unp : ∀ {D : L2.St → Hp → Prop}, D ([some (V.ref a), some v1, some v2, none] : L2.St) H1 → gRow K 2 (gCons (gName 1) (gCons (gName 2) gNil)) (.ref a) [some (V.ref a), none, none, none] H1 D := fun {D} h => by
        rcases hs with hs | hs
        · exact .inr ⟨a, _, rfl, hs, rfl, v1, _, rfl, v2, _, rfl, rfl, h⟩
        · exact .inl ⟨a, _, rfl, hs, rfl, v1, _, rfl, v2, _, rfl, rfl, h⟩
      refine ⟨_, rfl, unp ?_⟩
      refine ⟨_, rfl, v1, _, _, _, _, rfl, .ty "str", th_ty (.dat h1), kit_str x, _, rfl, ?_⟩
      cases x with
      | str k =>
        cases h1
        refine iteF ?_
        cases e2 : rank k with
        | none =>
          refine ⟨_, rfl, k, _, rfl, rfl, R.no k e2, _, rfl, iteT ?_⟩
          refine q _ _ sm1 ?_
          have z : readUnk (.tuple [.str k, y]) = none := by
            show unkOf k y = none
            unfold unkOf
            rw [e2]
            rfl
          rw [er _ z]
          rfl
        | some i =>
          obtain ⟨t, ht⟩ := R.has k i e2
          refine ⟨_, rfl, k, _, rfl, rfl, ht, _, rfl, iteF ?_⟩
          have ez : readUnk (.tuple [.str k, y]) = (ofKey k y).map fun z => [.inr k, z] := by
            show unkOf k y = _
            unfold unkOf
            rw [e2]
            rfl
          rw [er _ ez] at q
          have fin : ∀ (b : Bool) (H2 : Hp), Same H1 H2 → (b = true → ∃ z, v2 = kV z ∧ ofKey k y = some z) → (b = false → ofKey k y = none) →
              tRet (tIf (tB (tVar 3)) (tTup (tCons (tVar 1) (tCons (tVar 2) tNil))) (tC .non)) { nx := fun _ H' => Q .non H', rt := Q } [some (.ref a), some (.str k), some v2, some (.bl b)] H2 := by
            intro b H2 sm2 ht hf
            refine ⟨_, rfl, _, rfl, ?_⟩
            cases b with
            | true =>
              obtain ⟨z, rfl, ez⟩ := ht rfl
              refine iteT ⟨_, rfl, _, rfl, (by show 2 ≤ sizeLine; decide), fun p hp => ?_⟩
              refine q _ _ ((sm1.trans sm2).trans (same_new hp)) ?_
              rw [ez]
              exact ⟨p, rfl, upd_same⟩
            | false =>
              refine iteF ?_
              refine q _ _ (sm1.trans sm2) ?_
              rw [hf rfl]
              rfl
          refine ⟨_, rfl, rfl, _, rfl, ?_⟩
          rw [show decide (V.str k = V.str (Str.ofString "in")) = decide (k = sIn) from eq_str _ _]
          refine ite2 (fun c => ?_) (fun c => ?_)
          · have ck : k = sIn := of_decide_eq_true c
            refine ⟨_, rfl, v2, y, rfl, .dat h2, _, rfl, ?_⟩
            cases y with
            | int j =>
              cases h2
              refine iteT ⟨_, rfl, j, 1, rfl, rfl, ?_⟩
              refine fin _ _ (Same.refl _) (fun hb => ⟨.inl j, rfl, ?_⟩) fun hb => ?_
              · unfold ofKey
                rw [if_pos ck]
                exact if_pos (of_decide_eq_true hb)
              · unfold ofKey
                rw [if_pos ck]
                exact if_neg (of_decide_eq_false hb)
            | _ =>
              refine iteF (fin _ _ (Same.refl _) (fun hb => by cases hb) fun _ => ?_)
              unfold ofKey
              rw [if_pos ck]
          · have ck : ¬ k = sIn := fun z => c (decide_eq_true z)
            refine ⟨_, rfl, v2, y, rfl, .dat h2, shp.2, fun H2 sm2 => ?_⟩
            refine fin _ _ sm2 (fun hb => ?_) fun hb => ?_
            · cases y with
              | str s =>
                cases h2
                refine ⟨.inr s, rfl, ?_⟩
                unfold ofKey
                rw [if_neg ck]
                exact if_pos hb
              | _ => cases hb
            · cases y with
              | str s =>
                unfold ofKey
                rw [if_neg ck]
                exact if_neg (by intro z; rw [show isNm (.str s) = isNmS s from rfl, z] at hb; cases hb)
              | _ =>
                unfold ofKey
                rw [if_neg ck]
      | _ => exact iteT (q _ _ sm1 (by rw [er _ rfl]; rfl))
end
end DR

namespace DR
open PySem PySem.Spec PyProof.Rows L2
abbrev sOrderOf : Stmt := topS 18
theorem body_order : ∃ p1 p2 p3 p4 p5 p6 p7 p8 p9 p10 p11 k1 k2 k3, defBody sOrderOf = [.Return (some (.Tuple [.Subscript (.Name "RANKS" p1) (.Subscript (.Name "unknown" p2) (.Constant (.int 0) k1 p3) p4) p5, .Subscript (.Name "unknown" p6) (.Constant (.int 1) k2 p7) p8] k3 p9)) p10] ∧ p11 = p10 := ⟨_, _, _, _, _, _, _, _, _, _, _, _, _, _, rfl, rfl⟩
/-- what an unknown is to the sort -/
def keyD (u : List Key) : PyData := match u with
  | [.inr k, .inr s] => .tuple [.int ((rank k).getD 0), .str s]
  | [.inr k, .inl i] => .tuple [.int ((rank k).getD 0), .int i]
  | _ => .none
/-- the value of an unknown at a -/
def UnkH (h : Heap) (v : Value) (u : List Key) : Prop := ∃ a k o v1 v2, v = .ref a ∧ u = [.inr k, o] ∧ (rank k).isSome = true ∧ IsTup h a #[v1, v2] ∧ RelV (.str k) v1 ∧ RelV (kV o) v2
section
variable {P : Program} {w : World} {A : Around} {E : Value → Shared → Prop} {s : Shared} {K : PySem.W.Frag} {mg : Str → Option Value}
theorem order_pure {f d0 : Addr} {fd : FuncData} (F : Fun K "order_of" "order_of" sOrderOf f fd) (R : Ranks K w mg d0) (X : K.In s.heap) (G : s.heap.Ns mainGlobals mg) (hlim : s.heap.NoLimit) (hroom : A.depth < recursionLimit)
    {v : Value} {u : List Key} (hu : UnkH s.heap v u) : wpAny (model P w) A (call (.ref f) [v]) (PySem.W.KeyPure (keyD u) s) E s := by
  obtain ⟨oc, od, kV', doc, pm, an, cdv, ct, osl, rfl, lk, hcd⟩ := F.ex
  obtain ⟨a, k, o, v1, v2, rfl, rfl, hk, ht, r1, r2⟩ := hu
  obtain ⟨es, n, kd⟩ := R.kd
  obtain ⟨t1, rfl⟩ := r1
  obtain ⟨i, hi⟩ := Option.isSome_iff_exists.mp hk
  obtain ⟨t2, hns⟩ := R.has k i hi
  refine wpAny_call (Att.call_fn (binds := [("unknown", .ref a)]) X hlim lk hcd hroom (.of_eq rfl) (by first | rfl | decide | with_unfolding_all rfl) (fun s₁ IC => ?_) rfl rfl rfl)
  obtain ⟨h₁, tk₁, rfl⟩ := IC.toInCall.same
  have kp : ∀ b o, s.heap.get? b = some o → h₁.get? b = some o := IC.toInCall.keep
  have hn := IC.toInCall.ns
  have X₁ : K.In h₁ := X.keeps kp
  obtain ⟨p1, p2, p3, p4, p5, p6, p7, p8, p9, p10, p11, k1, k2, k3, hb, _⟩ := body_order
  rw [hb]
  refine wpAny_execs_cons (wpAny_Return_some (wpAny_Tuple_spliced ?_))
  have ld : ∀ {Q : Value → Shared → Prop} {E' : Value → Shared → Prop} {s' : Shared} {pos : Pos}, s'.heap.Ns s.heap.objs.size (bindL (envOfC "order_of" (defScope sOrderOf) s.heap.objs.size f cdv).kindOf [("unknown", .ref a)] fun _ => none) → Q (.ref a) s' →
      wpAny (model P w) (A.deeper (envOfC "order_of" (defScope sOrderOf) s.heap.objs.size f cdv)) (eval (.Name "unknown" pos) (envOfC "order_of" (defScope sOrderOf) s.heap.objs.size f cdv)) Q E' s' := fun hn h => wpAny_Name (wpAny_loadName_local rfl rfl hn (by first | rfl | with_unfolding_all rfl) h) (by decide)
  have lg : ∀ {Q : Value → Shared → Prop} {E' : Value → Shared → Prop} {s' : Shared} {pos : Pos}, s'.heap.Ns mainGlobals mg → Q (.ref d0) s' →
      wpAny (model P w) (A.deeper (envOfC "order_of" (defScope sOrderOf) s.heap.objs.size f cdv)) (eval (.Name "RANKS" pos) (envOfC "order_of" (defScope sOrderOf) s.heap.objs.size f cdv)) Q E' s' := fun hn h => Calls.Name_function_global rfl rfl (Calls.loadGlobal_global hn R.g h) (by decide)
  have G₁ : h₁.Ns mainGlobals mg := G.keeps kp
  have T₁ : IsTup h₁ a #[.str k t1, v2] := by
    obtain ⟨ot, g1, g2, g3, g4⟩ := ht
    exact ⟨ot, kp _ _ g1, g2, g3, g4⟩
  refine Calls.spliced_cons (PyProof.Rows.Subscript_ (lg G₁ (PyProof.Rows.Subscript_ (ld hn (wpAny_Constant_int (PyProof.Rows.item_tuple (j := 0) (x := .str k t1) T₁ (by decide) (by decide) rfl rfl ?_))))))
  have hm := PySem.W.mapOf_K (prog := P) (w := w) (h := h₁) X₁ kd.at_ kd.lit
  refine tail_any hm.typeIs slot_dict_getitem.lookup (wpAny_getItem_of (strKind_is P w k t1) hm (PySem.W.find_K kd.at_ hns) ?_) (by with_unfolding_all rfl)
  refine Calls.spliced_cons (PyProof.Rows.Subscript_ (ld hn (wpAny_Constant_int (PyProof.Rows.item_tuple (j := 1) (x := v2) T₁ (by decide) (by decide) rfl rfl ?_))))
  refine Calls.spliced_nil ⟨by show 2 ≤ sizeLine; decide, ?_⟩
  have push : ∀ b o, s.heap.get? b = some o → (h₁.push { cls := .type "tuple", data := .seq ([Value.int i t2, v2] : List Value).toArray }).get? b = some o := fun b o e => Heap.get?_push_of_some _ (kp b o e)
  have rd : ∀ (d : PyData), Reads (h₁.push { cls := .type "tuple", data := .seq ([Value.int i t2, v2] : List Value).toArray }) v2 d [] → Reads (h₁.push { cls := .type "tuple", data := .seq ([Value.int i t2, v2] : List Value).toArray }) (.ref h₁.objs.size) (.tuple [.int i, d]) [] := fun d hd =>
    .tuple (as := [] ++ ([] ++ [])) (Heap.get?_push_size _ rfl) rfl rfl (.cons (.int i t2) (.cons hd .nil))
  refine ⟨_, _, rfl, push, ?_⟩
  cases o with
  | inl j =>
    obtain ⟨t, rfl⟩ := r2
    show Reads _ _ (.tuple [.int ((rank k).getD 0), .int j]) []
    rw [hi]
    exact rd _ (.int j t)
  | inr z =>
    obtain ⟨t, rfl⟩ := r2
    show Reads _ _ (.tuple [.int ((rank k).getD 0), .str z]) []
    rw [hi]
    exact rd _ (.str z t)
end
end DR

namespace DR
open PySem PySem.Spec PyProof.Rows L2
/-- an unknown: of a kind, with a number where the kind is "in" -/
def NmU (u : List Key) : Prop := ∃ k o, u = [.inr k, o] ∧ (rank k).isSome = true ∧ ((∃ i, o = .inl i) ↔ k = sIn)
/-- an unknown at a value -/
def UnkAt (H : Hp) (y : V) (u : List Key) : Prop := ∃ a, y = .ref a ∧ H a = some (.tup (u.map kV))
def le2 : List Key → List Key → Bool := PySem.W.dataLe false keyD
/-- what stands behind the kind -/
def kD : Key → PyData
  | .inl i => .int i
  | .inr s => .str s
theorem keyD_is (k : Str) (o : Key) : keyD [.inr k, o] = .tuple [.int ((rank k).getD 0), kD o] := by
  cases o <;> rfl
theorem keyD_nm {u : List Key} (h : NmU u) : ∃ i z, keyD u = .tuple [.int i, kD z] := by
  obtain ⟨k, o, rfl, _⟩ := h
  exact ⟨_, o, keyD_is k o⟩
theorem rank_inj {k k' : Str} (h : (rank k).isSome = true) (h' : (rank k').isSome = true) (e : (rank k).getD 0 = (rank k').getD 0) : k = k' := by
  revert e h h'
  unfold rank
  by_cases c : k = sPiece
  · rw [if_pos c]
    by_cases c' : k' = sPiece
    · exact fun _ _ _ => c.trans c'.symm
    · rw [if_neg c']
      by_cases d' : k' = sName
      · rw [if_pos d']
        exact fun _ _ e => absurd e (by decide)
      · rw [if_neg d']
        by_cases e' : k' = sIn
        · rw [if_pos e']
          exact fun _ _ e => absurd e (by decide)
        · rw [if_neg e']
          exact fun _ z _ => absurd z (by decide)
  · rw [if_neg c]
    by_cases d : k = sName
    · rw [if_pos d]
      by_cases c' : k' = sPiece
      · rw [if_pos c']
        exact fun _ _ e => absurd e (by decide)
      · rw [if_neg c']
        by_cases d' : k' = sName
        · exact fun _ _ _ => d.trans d'.symm
        · rw [if_neg d']
          by_cases e' : k' = sIn
          · rw [if_pos e']
            exact fun _ _ e => absurd e (by decide)
          · rw [if_neg e']
            exact fun _ z _ => absurd z (by decide)
    · rw [if_neg d]
      by_cases e0 : k = sIn
      · rw [if_pos e0]
        by_cases c' : k' = sPiece
        · rw [if_pos c']
          exact fun _ _ e => absurd e (by decide)
        · rw [if_neg c']
          by_cases d' : k' = sName
          · rw [if_pos d']
            exact fun _ _ e => absurd e (by decide)
          · rw [if_neg d']
            by_cases e' : k' = sIn
            · exact fun _ _ _ => e0.trans e'.symm
            · rw [if_neg e']
              exact fun _ z _ => absurd z (by decide)
      · rw [if_neg e0]
        exact fun z _ _ => absurd z (by decide)
theorem same_key {k k' : Str} {o o' : Key} (h : (∃ i, o = .inl i) ↔ k = sIn) (h' : (∃ i, o' = .inl i) ↔ k' = sIn) (e : k = k') : PySem.W.alike (kD o) (kD o') = true := by
  subst e
  cases o with
  | inl i =>
    obtain ⟨j, rfl⟩ := h'.mpr (h.mp ⟨i, rfl⟩)
    rfl
  | inr s =>
    cases o' with
    | inl j =>
      obtain ⟨i, z⟩ := h.mpr (h'.mp ⟨j, rfl⟩)
      cases z
    | inr s' => rfl
theorem alike_kD (o : Key) : PySem.W.alike (kD o) (kD o) = true := by cases o <;> rfl
theorem lay_kD (o : Key) : (kD o).plain = true := by cases o <;> rfl
theorem cmp_key {u u' : List Key} (h : NmU u) (h' : NmU u') {xs ys : List PyData} (e : keyD u = .tuple xs) (e' : keyD u' = .tuple ys) : cmpL alikeP xs ys := by
  obtain ⟨k, o, rfl, h1, h2⟩ := h
  obtain ⟨k', o', rfl, h1', h2'⟩ := h'
  rw [keyD_is] at e e'
  obtain rfl := PyData.tuple.inj e
  obtain rfl := PyData.tuple.inj e'
  refine ⟨rfl, fun z => ⟨same_key h2 h2' (rank_inj h1 h1' ?_), fun _ => trivial⟩⟩
  exact of_decide_eq_true (show decide ((rank k).getD 0 = (rank k').getD 0) = true by simpa [PyData.eqv] using z)
theorem cmp_R1 : ∀ {xs ys : List PyData}, cmpL alikeP xs ys → cmpL R1 xs ys
  | _ :: _, _ :: _, h => ⟨.inl h.1, fun e => cmp_R1 (h.2 e)⟩
  | [], _, _ => by unfold cmpL; trivial
  | _ :: _, [], _ => by unfold cmpL; trivial
theorem mix_nm {us : List (List Key)} (h : ∀ u ∈ us, NmU u) : Mix (us.map keyD) (.type "int") := by
  refine ⟨fun d hd => ?_, fun xs ys hx hy => ?_, fun d hd => ?_⟩
  · obtain ⟨u, hu, rfl⟩ := List.mem_map.mp hd
    obtain ⟨i, z, e⟩ := keyD_nm (h u hu)
    exact ⟨_, _, e, rfl⟩
  · obtain ⟨u, hu, e⟩ := List.mem_map.mp hx
    obtain ⟨u', hu', e'⟩ := List.mem_map.mp hy
    exact cmp_R1 (cmp_key (h u hu) (h u' hu') e e')
  · obtain ⟨u, hu, rfl⟩ := List.mem_map.mp hd
    obtain ⟨i, z, e⟩ := keyD_nm (h u hu)
    rw [e]
    have := lay_kD z
    simp [PyData.plain, PyData.plainAll, this]
theorem self_nm {us : List (List Key)} (h : ∀ u ∈ us, NmU u) : ∀ d ∈ us.map keyD, PySem.W.alike d d = true := fun d hd => by
  obtain ⟨u, hu, rfl⟩ := List.mem_map.mp hd
  obtain ⟨i, z, e⟩ := keyD_nm (h u hu)
  rw [e]
  have := alike_kD z
  simp [PySem.W.alike, PySem.W.alikeAll, this]
/-- sorted(xs, key=order_of), the items unknowns by names -/
def rSortedUnk (K : PySem.W.Frag) (f : Addr) : List V → List V → Hp → VK → Prop := fun vs zs H Q => ∃ (a : Addr) (xs : List V) (us : List (List Key)), vs = [.ref a] ∧ zs = [.ref f] ∧ SqL K H a xs ∧ PySem.W.EachIs (UnkAt H) xs us ∧ (∀ u ∈ us, NmU u) ∧
  ∀ (ys : List V) (p : Addr), PySem.W.EachIs (UnkAt H) ys (us.mergeSort le2) → H p = none → Q (.ref p) (upd H p (.lst ys))
theorem unkH_of {X : Cx} {pins : List (Addr × Obj)} {σ : L2.St} {H : Hp} {s : Shared} (I : Inv X pins σ H s) {y : V} {v : Value} {u : List Key} (r : L2.RelV y v) (h : UnkAt H y u) (n : NmU u) : UnkH s.heap v u := by
  obtain ⟨a, rfl, ha⟩ := h
  obtain ⟨k, z, rfl, hk, _⟩ := n
  cases r
  obtain ⟨_, its, rv, o, h1, h2, m, h3⟩ := (show ObjOk X.prog X.w H s.heap a (.tup [V.str k, kV z]) from I.hok a _ ha)
  cases rv with
  | cons r1 rv => cases rv with
    | cons r2 rv =>
      cases rv
      rename_i w1 w2
      exact ⟨a, k, z, w1, w2, rfl, rfl, hk, ⟨o, h1, h2, m, h3⟩, r1, r2⟩
theorem unkH_keeps {h h' : Heap} {v : Value} {u : List Key} (k : ∀ b o, h.get? b = some o → h'.get? b = some o) (x : UnkH h v u) : UnkH h' v u := by
  obtain ⟨a, k1, o, v1, v2, e1, e2, hk, ⟨ot, g1, g2, g3⟩, r1, r2⟩ := x
  exact ⟨a, k1, o, v1, v2, e1, e2, hk, ⟨ot, k _ _ g1, g2, g3⟩, r1, r2⟩
theorem each_vals {H : Hp} : ∀ {xs : List V} {its : List Value} {us : List (List Key)}, PySem.W.EachIs (UnkAt H) xs us → Vals xs its → PySem.W.EachIs (fun v u => ∃ y, L2.RelV y v ∧ UnkAt H y u) its us
  | _, _, _, .nil, .nil => .nil
  | _, _, _, .cons h t, .cons r rt => .cons ⟨_, r, h⟩ (each_vals t rt)
theorem each_back {H : Hp} : ∀ {its : List Value} {us : List (List Key)}, PySem.W.EachIs (fun v u => ∃ y, L2.RelV y v ∧ UnkAt H y u) its us → ∃ ys, Vals ys its ∧ PySem.W.EachIs (UnkAt H) ys us
  | _, _, .nil => ⟨[], .nil, .nil⟩
  | _, _, .cons ⟨y, r, h⟩ t => by
    obtain ⟨ys, r1, h1⟩ := each_back t
    exact ⟨y :: ys, .cons r r1, .cons h h1⟩
theorem cr_sortedUnk {X : Cx} {k : Nat} {f d0 : Addr} {fd : FuncData} (hr : Room k X.A) (F : Fun X.K "order_of" "order_of" sOrderOf f fd) (R : Ranks X.K X.w X.mg d0) : CallRK X (.builtin "sorted") [Str.ofString "key"] (rSortedUnk X.K f) := by
  intro pins s σ H vs zs us' ws Q I r rz h
  obtain ⟨a, xs, us, rfl, rfl, hs, he, hn, q⟩ := h
  obtain rfl := Vals.ref1 r
  obtain ⟨w1, rfl, e1⟩ := vals1 rz
  obtain rfl : w1 = Value.ref f := e1
  obtain ⟨its, rv, hl, hz⟩ := I.list hs
  have hu := each_vals he rv
  have hlen : us.length ≤ sizeLine := by
    rw [← he.length]
    exact hz
  refine sorted_key_mix (bs := us) (R := fun v u => ∃ y, L2.RelV y v ∧ UnkAt H y u) (f := .ref f) keyD hl.isList hu (self_nm hn) (mix_nm hn) (by decide) hlen (fun u hu => ?_) (ksk_s1 _ _) (fun _ => ksk_l1 _ _) (fun x => ksk_t1 f x) (fun v u hR hu h tk kp => ?_) fun out c h' tk kp hf hg hol ho => ?_
  · obtain ⟨i, z, e⟩ := keyD_nm (hn u hu)
    have hd : (keyD u).depth ≤ 5 := by
      rw [e]
      have z0 : (kD z).depth = 0 := by cases z <;> simp [kD, PyData.depth]
      simp [PyData.depth, PyData.depthAll, z0]
    have := hr.units
    omega
  · obtain ⟨y, ry, hy⟩ := hR
    have hd : X.A.in1.in1.depth < recursionLimit := hr.depth
    exact order_pure (s := { s with heap := h, toks := tk }) F R (I.kIn.keeps kp) ((I.mod.glob.keeps I.bk).keeps kp) (I.nolimit.keeps kp) hd (unkH_keeps kp (unkH_of I ry hy (hn u hu)))
  · obtain ⟨ys, rv', hy⟩ := each_back ho
    have hlen' : ys.length ≤ sizeLine := by
      rw [rv'.length, hol]
      exact hlen
    exact ⟨.ref (s.heap.objs.size + 1), upd H (s.heap.objs.size + 1) (.lst ys), I.laid (t' := tk) kp (Nat.le_succ _) ⟨hlen', out, c, rv', hg⟩, rfl, q ys _ hy (I.hok.fresh (Nat.le_succ _))⟩
end DR

namespace DR
open PySem PySem.Spec PyProof.Rows L2
/-! ### sums -/
def keyDat : Key → PyData
  | .inl i => .int i
  | .inr s => .str s
def unkD (u : List Key) : PyData := .tuple (u.map keyDat)
def partD (p : List Key × Int) : PyData := .tuple [unkD p.1, .int p.2]
def sumD (n : Int) (ps : List (List Key × Int)) : PyData := .tuple [.int n, .tuple (ps.map partD)]
abbrev Mul := List (List Key × Int)
def vKv (kvs : Mul) : List (List Key × V) := kvs.map fun p => (p.1, V.int p.2)
def getI (kvs : Mul) (u : List Key) : Int := ((kvs.find? fun kv => decide (kv.1 = u)).map (·.2)).getD 0
def keysN (kvs : Mul) : List (List Key) := (kvs.map (·.1)).filter fun u => !decide (getI kvs u = 0)
def form (kvs : Mul) : Mul := ((keysN kvs).mergeSort le2).map fun u => (u, getI kvs u)
theorem valV_kv (kvs : Mul) (u : List Key) : valV (vKv kvs) u = (kvs.find? fun kv => decide (kv.1 = u)).map fun kv => V.int kv.2 := by
  unfold valV vKv
  rw [List.find?_map]
  simp [Function.comp_def]
theorem valV_mem {kvs : Mul} {u : List Key} (h : u ∈ kvs.map (·.1)) : valV (vKv kvs) u = some (.int (getI kvs u)) := by
  rw [valV_kv]
  unfold getI
  cases e : kvs.find? fun kv => decide (kv.1 = u) with
  | some p => rfl
  | none =>
    obtain ⟨p, hp, rfl⟩ := List.mem_map.mp h
    have z := List.find?_eq_none.mp e p hp
    simp at z
theorem dp_key {K : PySem.W.Frag} {H : Hp} (k : Key) : Dp K H (kV k) (keyDat k) := by
  cases k with
  | inl i => exact .int i
  | inr s => exact .str s
theorem dps_keys {K : PySem.W.Frag} {H : Hp} : ∀ u : List Key, DpAll K H (u.map kV) (u.map keyDat)
  | [] => .nil
  | k :: u => .cons (dp_key k) (dps_keys u)
theorem dp_unk {K : PySem.W.Frag} {H : Hp} {y : V} {u : List Key} (h : UnkAt H y u) : Dp K H y (unkD u) := by
  obtain ⟨a, rfl, ha⟩ := h
  exact .tup (SqT.of ha) (dps_keys u)
theorem unkAt_same {H H' : Hp} (e : Same H H') {y : V} {u : List Key} (h : UnkAt H y u) : UnkAt H' y u := by
  obtain ⟨a, rfl, ha⟩ := h
  exact ⟨a, rfl, e _ _ ha⟩
theorem each_same {H H' : Hp} (e : Same H H') : ∀ {ys : List V} {us : List (List Key)}, PySem.W.EachIs (UnkAt H) ys us → PySem.W.EachIs (UnkAt H') ys us
  | _, _, .nil => .nil
  | _, _, .cons h t => .cons (unkAt_same e h) (each_same e t)
theorem each_get {H : Hp} : ∀ {ys : List V} {us : List (List Key)}, PySem.W.EachIs (UnkAt H) ys us → ∀ {i : Nat} {y : V}, ys[i]? = some y → ∃ u, us[i]? = some u ∧ UnkAt H y u
  | _, _, .nil, i, y, h => by simp at h
  | _, _, .cons h t, 0, y, e => by
    obtain rfl : _ = y := Option.some.inj e
    exact ⟨_, rfl, h⟩
  | _, _, .cons h t, i + 1, y, e => each_get t (i := i) e
theorem each_snoc {H : Hp} {y : V} {u : List Key} (h : UnkAt H y u) : ∀ {ys : List V} {us : List (List Key)}, PySem.W.EachIs (UnkAt H) ys us → PySem.W.EachIs (UnkAt H) (ys ++ [y]) (us ++ [u])
  | _, _, .nil => .cons h .nil
  | _, _, .cons g t => .cons g (each_snoc h t)
theorem dps_snoc {K : PySem.W.Frag} {H : Hp} {y : V} {d : PyData} (h : Dp K H y d) : ∀ {ys : List V} {ds : List PyData}, DpAll K H ys ds → DpAll K H (ys ++ [y]) (ds ++ [d])
  | _, _, .nil => .cons h .nil
  | _, _, .cons g t => .cons g (dps_snoc h t)
/-- tuples stay -/
def TupS (H H' : Hp) : Prop := ∀ a xs, H a = some (.tup xs) → H' a = some (.tup xs)
theorem TupS.of {H H' : Hp} (e : Same H H') : TupS H H' := fun _ _ h => e _ _ h
theorem TupS.trans {H H' H2 : Hp} (e : TupS H H') (f : TupS H' H2) : TupS H H2 := fun a xs h => f a xs (e a xs h)
theorem TupS.refl (H : Hp) : TupS H H := fun _ _ h => h
theorem TupS.put {H : Hp} {S : Addr} {o o' : HO} (hS : H S = some o) (ho : ∀ xs, o ≠ .tup xs) : TupS H (upd H S o') := fun a xs h => by
  have ne : a ≠ S := fun z => by
    rw [z, hS] at h
    exact ho xs (Option.some.inj h)
  rw [upd_ne ne]
  exact h
theorem eachs_snoc {α β : Type} {R : α → β → Prop} {y : α} {u : β} (h : R y u) : ∀ {ys : List α} {us : List β}, PySem.W.EachIs R ys us → PySem.W.EachIs R (ys ++ [y]) (us ++ [u])
  | _, _, .nil => .cons h .nil
  | _, _, .cons g t => .cons g (eachs_snoc h t)
theorem eachs_imp {α β : Type} {R S : α → β → Prop} (f : ∀ a b, R a b → S a b) : ∀ {as : List α} {bs : List β}, PySem.W.EachIs R as bs → PySem.W.EachIs S as bs
  | _, _, .nil => .nil
  | _, _, .cons h t => .cons (f _ _ h) (eachs_imp f t)
theorem eachs_get {α β : Type} {R : α → β → Prop} : ∀ {ys : List α} {us : List β}, PySem.W.EachIs R ys us → ∀ {i : Nat} {y : α}, ys[i]? = some y → ∃ u, us[i]? = some u ∧ R y u
  | _, _, .nil, i, y, h => by simp at h
  | _, _, .cons h t, 0, y, e => by
    obtain rfl : _ = y := Option.some.inj e
    exact ⟨_, rfl, h⟩
  | _, _, .cons h t, i + 1, y, e => eachs_get t (i := i) e
/-- a part of a sum, a sum: all of tuples -/
def PartT (H : Hp) (v : V) (q : List Key × Int) : Prop := ∃ c e, v = .ref c ∧ H c = some (.tup [.ref e, .int q.2]) ∧ H e = some (.tup (q.1.map kV))
def SumT (H : Hp) (v : V) (n : Int) (ps : Mul) : Prop := ∃ a b xs, v = .ref a ∧ H a = some (.tup [.int n, .ref b]) ∧ H b = some (.tup xs) ∧ PySem.W.EachIs (PartT H) xs ps
theorem partT_s {H H' : Hp} (e : TupS H H') {v : V} {q : List Key × Int} (h : PartT H v q) : PartT H' v q := by
  obtain ⟨c, k, h1, h2, h3⟩ := h
  exact ⟨c, k, h1, e _ _ h2, e _ _ h3⟩
theorem sumT_s {H H' : Hp} (e : TupS H H') {v : V} {n : Int} {ps : Mul} (h : SumT H v n ps) : SumT H' v n ps := by
  obtain ⟨a, b, xs, h1, h2, h3, h4⟩ := h
  exact ⟨a, b, xs, h1, e _ _ h2, e _ _ h3, eachs_imp (fun _ _ => partT_s e) h4⟩
theorem parts_dp {K : PySem.W.Frag} {H : Hp} : ∀ {xs : List V} {ps : Mul}, PySem.W.EachIs (PartT H) xs ps → DpAll K H xs (ps.map partD)
  | _, _, .nil => .nil
  | _, _, .cons h t => by
    obtain ⟨c, e, rfl, h2, h3⟩ := h
    exact .cons (.tup (SqT.of h2) (.cons (dp_unk ⟨e, rfl, h3⟩) (.cons (.int _) .nil))) (parts_dp t)
theorem sumT_dp {K : PySem.W.Frag} {H : Hp} {v : V} {n : Int} {ps : Mul} (h : SumT H v n ps) : Dp K H v (sumD n ps) := by
  obtain ⟨a, b, xs, rfl, h2, h3, h4⟩ := h
  exact .tup (SqT.of h2) (.cons (.int n) (.cons (.tup (SqT.of h3) (parts_dp h4)) .nil))
def spOneForm (K : PySem.W.Frag) : Sp := fun vs H Q _ => ∃ (n : Int) (d : Addr) (kvs : Mul), vs = [.int n, .ref d] ∧ H d = some (.dT (vKv kvs)) ∧ (∀ u ∈ kvs.map (·.1), NmU u) ∧ kvs.length ≤ 1000 ∧
  ∀ v H', Same H H' → SumT H' v n (form kvs) → Q v H'
/-- a heap without the object at D -/
def wo (H : Hp) (D : Addr) : Hp := fun b => if b = D then none else H b
theorem wo_ne {H : Hp} {D b : Addr} (h : b ≠ D) : wo H D b = H b := if_neg h
theorem wo_same {H : Hp} {D : Addr} : Same (wo H D) H := fun b o e => by
  by_cases h : b = D
  · rw [h] at e
    unfold wo at e
    rw [if_pos rfl] at e
    cases e
  · rw [wo_ne h] at e
    exact e
theorem wo_self {H : Hp} {D : Addr} {o : HO} : wo (upd H D o) D = wo H D := by
  funext b
  by_cases h : b = D
  · unfold wo
    rw [if_pos h, if_pos h]
  · rw [wo_ne h, wo_ne h, upd_ne h]
theorem wo_new {H : Hp} {D T : Addr} {o : HO} (hT : H T = none) (h : T ≠ D) : Same (wo H D) (wo (upd H T o) D) := fun b x e => by
  have e2 : H b = some x := wo_same b x e
  have hb : b ≠ D := fun z => by
    rw [z] at e
    unfold wo at e
    rw [if_pos rfl] at e
    cases e
  rw [wo_ne hb, upd_ne (ne_of_none e2 hT)]
  exact e2
abbrev sOneForm : Stmt := topS 19
theorem scOneForm : FnScope ["number", "multiples", "held", "unknown"] ["number", "multiples"] (defScope sOneForm) := ⟨rfl, rfl, rfl, by decide +kernel, rfl, by decide +kernel, by decide +kernel⟩
theorem sz1000 {n : Nat} (h : n ≤ 1000) : n ≤ sizeLine := Nat.le_of_lt (small1000 h)
theorem unkAt_upd {H : Hp} {D : Addr} {l : List V} {o : HO} (hD : H D = some (.lst l)) {y : V} {u : List Key} (h : UnkAt H y u) : UnkAt (upd H D o) y u := by
  obtain ⟨a, rfl, ha⟩ := h
  refine ⟨a, rfl, ?_⟩
  rw [upd_ne (ne_of ha hD (by intro z; cases z))]
  exact ha
theorem each_upd {H : Hp} {D : Addr} {l : List V} {o : HO} (hD : H D = some (.lst l)) : ∀ {ys : List V} {us : List (List Key)}, PySem.W.EachIs (UnkAt H) ys us → PySem.W.EachIs (UnkAt (upd H D o)) ys us
  | _, _, .nil => .nil
  | _, _, .cons h t => .cons (unkAt_upd hD h) (each_upd hD t)
theorem each_len {H : Hp} {ys : List V} {us : List (List Key)} (h : PySem.W.EachIs (UnkAt H) ys us) : ys.length = us.length := h.length
theorem mem_sort {us : List (List Key)} {u : List Key} (h : u ∈ us.mergeSort le2) : u ∈ us := (List.mergeSort_perm us le2).mem_iff.mp h
section
variable {P : Program} {w : World} {K : PySem.W.Frag} {mg : Str → Option Value} {base : Heap}
theorem ok_oneForm {f fO d0 : Addr} {fd fdO : FuncData} (F : Fun K "one_form" "one_form" sOneForm f fd) (T : Bi mg) (R : Ranks K w mg d0) (FO : Fun K "order_of" "order_of" sOrderOf fO fdO) (gO : mg "order_of" = some (.ref fO)) :
    FnOk P w K mg base CX0 2 f fd ["number", "multiples"] (spOneForm K) := by
  refine F.ok scOneForm (fun vs H Q E h => ?_) (fun cdv A outer s H vs Q E hr h => ?_)
  · obtain ⟨n, d, kvs, rfl, _⟩ := h
    rfl
  · obtain ⟨n, d, kvs, rfl, hd, hn, hl, q⟩ := h
    have hu := hu_of hr
    refine ⟨_, pss_cons (ps_set (i := 2) scOneForm.nd rfl (.inl rfl) (pe_callBK (cr_sortedUnk hr FO R) (by rfl) T.sorted (by decide +kernel) (pa_cons (pe_lock (pe_lc (own := [("unknown", 3)]) (g := gName 3) (tt := _) rfl scOneForm.nd (pi_keys (pv 1)) (blkOk_by (N := ["number", "multiples", "held", "unknown"]) (sc := defScope sOneForm) (by decide +kernel)) (fun _ _ _ _ _ => pg_name (i := 3) scOneForm.nd rfl (.inl rfl)) (fun _ _ _ _ _ => pts_one (pt_cmpR op_ne (pe_dget hu (pv 1) (pv 3) (fun _ _ => rfl)) pe_int (nomark _))) (fun _ _ _ _ _ => (pv 3)))) pa_nil) (pk_cons (pe_glob (v := .ref fO) rfl gO rfl) pk_nil)))
      (pss_one (ps_ret (pe_tup (pa_cons (pv 0) (pa_cons (pe_callTy call_tuple_of (by rfl) T.tuple (by decide +kernel) (pa_cons (pe_lc (own := [("unknown", 3)]) (g := gName 3) (tt := tYes) rfl scOneForm.nd (pi_list (pv 2)) (blkOk_by (N := ["number", "multiples", "held", "unknown"]) (sc := defScope sOneForm) (by decide +kernel)) (fun _ _ _ _ _ => pg_name (i := 3) scOneForm.nd rfl (.inl rfl)) (fun _ _ _ _ _ => pts_nil) (fun _ _ _ _ _ => (pe_tup (pa_cons (pv 3) (pa_cons (pe_dget hu (pv 1) (pv 3) (fun _ _ => rfl)) pa_nil))))) pa_nil)) pa_nil))))), ?_⟩
    refine ⟨d, _, hd, trivial, fun od => ⟨_, rfl, d, od, rfl, .inr ⟨_, upd_same, fun D hD => ?_⟩⟩⟩
    have lenK : (vKv kvs).length = kvs.length := List.length_map _
    have hDd : D ≠ d := by
      intro z
      rw [z, upd_same] at hD
      cases hD
    have hDn : H D = none := by
      rw [upd_ne hDd] at hD
      exact hD
    refine lc_it walk_keysT (fun i H1 => (∀ b o, b ≠ D → upd H d (.frz od (.dT (vKv kvs))) b = some o → H1 b = some o) ∧ ∃ ys, H1 D = some (.lst ys) ∧ ys.length ≤ i ∧ PySem.W.EachIs (UnkAt H1) ys (((kvs.take i).map (·.1)).filter fun u => !decide (getI kvs u = 0)))
      ⟨fun b o hb e => by rw [upd_ne hb]; exact e, [], upd_same, Nat.le_refl _, .nil⟩ (fun i H1 _ ⟨kp, _⟩ => kp _ _ hDd.symm upd_same) ?_ ?_
    · rintro i x H1 H1' hi ⟨kp, ys, hD1, hlen, he⟩ ⟨rfl, k, v, qa, hk, rfl, hq⟩
      have hi' : i < kvs.length := by rw [lenK] at hi; exact hi
      obtain ⟨⟨k0, m⟩, hm⟩ : ∃ p, kvs[i]? = some p := ⟨kvs[i], List.getElem?_eq_getElem hi'⟩
      have hk2 : (k, v) = (k0, V.int m) := by
        unfold vKv at hk
        rw [List.getElem?_map, hm] at hk
        exact (Option.some.inj hk).symm
      cases hk2
      have hmem : k ∈ kvs.map (·.1) := List.mem_map.mpr ⟨_, List.mem_of_getElem? hm, rfl⟩
      have hd1 : H1' d = some (.frz od (.dT (vKv kvs))) := kp _ _ hDd.symm upd_same
      have qD : qa ≠ D := ne_of hq hD1 (by intro z; cases z)
      have hqH : UnkAt H1' (.ref qa) k := ⟨qa, rfl, hq⟩
      refine ⟨rfl, _, rfl, _, rfl, d, .int (getI kvs k), rfl, .inr ⟨vKv kvs, k, qa, .inr ⟨od, hd1⟩, rfl, hq, (valV_mem hmem).symm⟩, rfl, _, rfl, ?_⟩
      rw [eq_int]
      have tk : (kvs.take (i + 1)).map (·.1) = (kvs.take i).map (·.1) ++ [k] := by
        rw [List.take_add_one, hm]
        simp
      cases c : !decide (getI kvs k = 0) with
      | true =>
        refine iteT ⟨_, rfl, ys, hD1, small1000 (by omega), fun b o hb e => ?_, ys ++ [.ref qa], upd_same, by simp; omega, ?_⟩
        · rw [upd_ne hb]
          exact kp b o hb e
        · rw [tk, List.filter_append]
          have z : [k].filter (fun u => !decide (getI kvs u = 0)) = [k] := by simp [List.filter, c]
          rw [z]
          exact each_snoc (unkAt_upd hD1 hqH) (each_upd hD1 he)
      | false =>
        refine iteF ⟨kp, ys, hD1, by omega, ?_⟩
        rw [tk, List.filter_append]
        have z : [k].filter (fun u => !decide (getI kvs u = 0)) = [] := by simp [List.filter, c]
        rw [z, List.append_nil]
        exact he
    · rintro H1 ⟨kp, ys, hD1, hlen, he⟩
      have tl : (kvs.take (vKv kvs).length) = kvs := by rw [lenK]; exact List.take_length
      rw [tl] at he
      have hd1 : H1 d = some (.frz od (.dT (vKv kvs))) := kp _ _ hDd.symm upd_same
      have sm : Same H (upd H1 d (.dT (vKv kvs))) := fun b o e => by
        by_cases hb : b = d
        · rw [hb] at e ⊢
          rw [upd_same]
          exact hd.symm.trans e
        · rw [upd_ne hb]
          refine kp b o (ne_of_none e hDn) ?_
          rw [upd_ne hb]
          exact e
      have eD : (upd H1 d (.dT (vKv kvs))) D = some (.lst ys) := by
        rw [upd_ne hDd]
        exact hD1
      have he2 : PySem.W.EachIs (UnkAt (upd H1 d (.dT (vKv kvs)))) ys (keysN kvs) := by
        have go : ∀ {zs : List V} {us : List (List Key)}, PySem.W.EachIs (UnkAt H1) zs us → PySem.W.EachIs (UnkAt (upd H1 d (.dT (vKv kvs)))) zs us := by
          intro zs us h
          induction h with
          | nil => exact .nil
          | cons h t ih =>
            obtain ⟨a, rfl, ha⟩ := h
            refine .cons ⟨a, rfl, ?_⟩ ih
            rw [upd_ne (ne_of ha hd1 (by intro z; cases z))]
            exact ha
        exact go he
      have hnK : ∀ u ∈ keysN kvs, NmU u := fun u hu => hn u (List.mem_filter.mp hu).1
      refine ⟨hd1, D, ys, keysN kvs, rfl, rfl, SqL.of eD, he2, hnK, fun zs p hz hp => ?_⟩
      generalize hH2 : upd H1 d (.dT (vKv kvs)) = H2 at sm eD he2 hp hz ⊢
      have h2d : H2 d = some (.dT (vKv kvs)) := by rw [← hH2, upd_same]
      have sm3 : Same H2 (upd H2 p (.lst zs)) := same_new hp
      have hz3 : PySem.W.EachIs (UnkAt (upd H2 p (.lst zs))) zs ((keysN kvs).mergeSort le2) := each_same sm3 hz
      have lz : zs.length = ((keysN kvs).mergeSort le2).length := hz.length
      have lz2 : zs.length ≤ 1000 := by
        rw [lz, (List.mergeSort_perm _ _).length_eq]
        unfold keysN
        refine Nat.le_trans (List.length_filter_le _ _) ?_
        rw [List.length_map]
        exact hl
      generalize hH3 : upd H2 p (.lst zs) = H3 at sm3 hz3 ⊢
      have h3d : H3 d = some (.dT (vKv kvs)) := sm3 _ _ h2d
      have h3p : H3 p = some (.lst zs) := by rw [← hH3, upd_same]
      refine ⟨_, rfl, _, rfl, p, rfl, ⟨_, SqL.of h3p⟩, fun D2 hD2 => ?_⟩
      have pD2 : p ≠ D2 := ne_of_none h3p hD2
      refine lc_it (walk_list (xs := zs)) (fun i H4 => (∀ b o, b ≠ D2 → H3 b = some o → H4 b = some o) ∧ ∃ ps, H4 D2 = some (.lst ps) ∧ ps.length = i ∧ PySem.W.EachIs (PartT H4) ps ((((keysN kvs).mergeSort le2).take i).map fun u => (u, getI kvs u)))
        ⟨fun b o hb e => by rw [upd_ne hb]; exact e, [], upd_same, rfl, .nil⟩ (fun i H4 _ ⟨kp, _⟩ => SqL.of (kp _ _ pD2 h3p)) ?_ ?_
      · rintro i x H4 H4' hi ⟨kp4, ps, h4D, hps, hdp⟩ ⟨rfl, hx⟩
        obtain ⟨u, hu1, a, rfl, ha⟩ := each_get hz3 hx
        have haD : a ≠ D2 := ne_of_none ha hD2
        have ha4 := kp4 _ _ haD ha
        have h4d := kp4 _ _ (ne_of_none h3d hD2) h3d
        have hmem : u ∈ kvs.map (·.1) := (List.mem_filter.mp (mem_sort (List.mem_of_getElem? hu1))).1
        refine ⟨rfl, yes_go (iteT ⟨_, rfl, _, rfl, _, rfl, d, .int (getI kvs u), rfl, .inr ⟨vKv kvs, u, a, .inl h4d, rfl, ha4, (valV_mem hmem).symm⟩, (by show 2 ≤ sizeLine; decide), fun t ht => ⟨ps, ?_, small1000 (by omega), ?_, ps ++ [.ref t], upd_same, by simp; omega, ?_⟩⟩)⟩
        · rw [upd_ne (ne_of_none h4D ht)]
          exact h4D
        · intro b o hb e
          rw [upd_ne hb, upd_ne (ne_of_none (kp4 b o hb e) ht)]
          exact kp4 b o hb e
        · have tD : t ≠ D2 := fun z => by rw [z, h4D] at ht; cases ht
          have ts : TupS H4' (upd (upd H4' t (.tup [.ref a, .int (getI kvs u)])) D2 (.lst (ps ++ [.ref t]))) := (TupS.of (same_new ht)).trans (TupS.put (o := .lst ps) (by
            rw [upd_ne (ne_of_none h4D ht)]
            exact h4D) (by intro xs z; cases z))
          rw [List.take_add_one, hu1]
          simp only [Option.toList_some, List.map_append, List.map_cons, List.map_nil]
          refine eachs_snoc ⟨t, a, rfl, ?_, ts _ _ ha4⟩ (eachs_imp (fun _ _ => partT_s ts) hdp)
          rw [upd_ne tD, upd_same]
      · rintro H4 ⟨kp4, ps, h4D, hps, hdp⟩
        have tl2 : ((keysN kvs).mergeSort le2).take zs.length = (keysN kvs).mergeSort le2 := by rw [lz]; exact List.take_length
        rw [tl2] at hdp
        refine ⟨D2, ps, rfl, .inl ⟨SqL.of h4D, fun l hl4 => ⟨(by show 2 ≤ sizeLine; decide), fun r hr5 => ?_⟩⟩⟩
        have s4 : Same H3 H4 := fun b o e => kp4 b o (ne_of_none e hD2) e
        have s5 := same_new (o := .tup ps) hl4
        have s6 := same_new (o := .tup [.int n, .ref l]) hr5
        refine q _ _ ((((sm.trans sm3).trans s4).trans s5).trans s6) ?_
        have el : (upd (upd H4 l (.tup ps)) r (.tup [.int n, .ref l])) l = some (.tup ps) := s6 _ _ upd_same
        exact ⟨r, l, ps, rfl, upd_same, el, eachs_imp (fun _ _ => partT_s (TupS.of (s5.trans s6))) hdp⟩
end
end DR

namespace DR
open PySem PySem.Spec PyProof.Rows L2
/-! ### a for over a list or a tuple -/
def iSeq (K : PySem.W.Frag) (tl : TE) : TI := fun σ H R => tl σ H fun x H1 => ∃ a xs, x = .ref a ∧ (SqL K H1 a xs ∨ SqT K H1 a xs) ∧ ∀ J G, Walk J xs.length G (YAt xs) → (∀ H4, (SqL K H1 a xs → SqL K H4 a xs) → (SqT K H1 a xs → SqT K H4 a xs) → G H4) → R J H1
theorem pi_seq {X : Cx} {tg l : Expr} {tl : TE} (hl : PE X l tl) : PI X tg l (iSeq X.K tl) := by
  refine ⟨fun pins s σ H R I h => ?_⟩
  refine thn (hl.run pins s σ H _ I h) fun v s1 ⟨x, H1, I1, r1, q1⟩ => ?_
  obtain ⟨a, xs, e, hq, q⟩ := q1
  subst e
  cases r1
  have fp : ∀ b ∈ [s1.heap.objs.size], FpOk X pins H1 b := fun b hb => by
    have e : b = s1.heap.objs.size := by simpa using hb
    subst e
    exact I1.fpOk (Nat.le_refl _) (I1.hok.fresh (Nat.le_refl _))
  rcases hq with hq | hq
  · obtain ⟨its, rv, p, hz⟩ := I1.list hq
    refine wpAny_pyIter_list p.isList ?_
    exact ⟨s1.heap.objs.size, [s1.heap.objs.size], _, _, H1, rfl, I1.kept (t' := s1.toks) fun b o e => Heap.get?_push_of_some _ e, turn_list a _, ⟨_, Heap.get?_push_size _ rfl, rfl, rfl⟩, fp, q _ (fun H4 => SqL X.K H4 a xs) walk_list fun H4 e _ => e hq⟩
  · obtain ⟨its, rv, p, hz⟩ := I1.tuple hq
    refine wpAny_pyIter_tuple (show s1.heap.IsTuple a its.toArray from p) ?_
    exact ⟨s1.heap.objs.size, [s1.heap.objs.size], _, _, H1, rfl, I1.kept (t' := s1.toks) fun b o e => Heap.get?_push_of_some _ e, turn_tuple a _, ⟨_, Heap.get?_push_size _ rfl, rfl, rfl⟩, fp, q _ (fun H4 => SqT X.K H4 a xs) walk_tup fun H4 _ e => e hq⟩
/-! ### the mirror of read_sum -/
def putI (kvs : Mul) (u : List Key) (m : Int) : Mul := if (kvs.any fun kv => decide (kv.1 = u)) = true then kvs.map (fun kv => if kv.1 = u then (kv.1, m) else kv) else kvs ++ [(u, m)]
theorem put_vKv (kvs : Mul) (u : List Key) (m : Int) : putK (vKv kvs) u (.int m) = vKv (putI kvs u m) := by
  unfold putK putI vKv
  have e : ((kvs.map fun p => (p.1, V.int p.2)).any fun kv => decide (kv.1 = u)) = kvs.any fun kv => decide (kv.1 = u) := by
    rw [List.any_map]
    rfl
  rw [e]
  split
  · rw [List.map_map, List.map_map]
    apply List.map_congr_left
    intro p _
    by_cases h : p.1 = u
    · simp [h]
    · simp [h]
  · simp
theorem putI_len (kvs : Mul) (u : List Key) (m : Int) : (putI kvs u m).length ≤ kvs.length + 1 := by
  unfold putI
  split
  · rw [List.length_map]; omega
  · simp
theorem putI_keys {kvs : Mul} {u : List Key} {m : Int} (hu : NmU u) (h : ∀ x ∈ kvs.map (·.1), NmU x) : ∀ x ∈ (putI kvs u m).map (·.1), NmU x := by
  intro x hx
  unfold putI at hx
  split at hx
  · rw [List.map_map] at hx
    obtain ⟨p, hp, rfl⟩ := List.mem_map.mp hx
    have e : (Prod.fst ∘ fun kv : List Key × Int => if kv.1 = u then (kv.1, m) else kv) p = p.1 := by
      show (if p.1 = u then (p.1, m) else p).1 = p.1
      split <;> rfl
    rw [e]
    exact h _ (List.mem_map.mpr ⟨p, hp, rfl⟩)
  · rw [List.map_append] at hx
    rcases List.mem_append.mp hx with hx | hx
    · exact h x hx
    · have e : x = u := by simpa using hx
      rw [e]
      exact hu
def addPart (acc : Mul) (p : PyData) : Option Mul := match items p with
  | some [x, .int m] => (readUnk x).map fun u => putI acc u (getI acc u + m)
  | _ => none
def readParts : List PyData → Mul → Option Mul
  | [], acc => some acc
  | p :: r, acc => (addPart acc p).bind (readParts r)
theorem readParts_app : ∀ (ps qs : List PyData) (acc : Mul), readParts (ps ++ qs) acc = (readParts ps acc).bind (readParts qs)
  | [], qs, acc => rfl
  | p :: ps, qs, acc => by
    show (addPart acc p).bind (readParts (ps ++ qs)) = ((addPart acc p).bind (readParts ps)).bind (readParts qs)
    cases e : addPart acc p with
    | none => rfl
    | some a => exact readParts_app ps qs a
def readSum (d : PyData) : Option (Int × Mul) := match d with
  | .int n => some (n, [])
  | d => match items d with
    | some [.int n, q] => (items q).bind fun ds => (readParts ds []).map fun kvs => (n, form kvs)
    | _ => none
def okPart (p : PyData) : Prop := ∀ x m, items p = some [x, .int m] → shortP x ∧ ∀ u, readUnk x = some u → NmU u
def okSum (d : PyData) : Prop := ∀ n q ds, items d = some [.int n, q] → items q = some ds → ds.length ≤ 1000 ∧ ∀ p ∈ ds, okPart p
def SumV (K : PySem.W.Frag) (H : Hp) (v : V) : Option (Int × Mul) → Prop
  | none => v = .non
  | some (n, ps) => SumT H v n ps
def spReadSum (K : PySem.W.Frag) : Sp := fun vs H Q _ => ∃ v d, vs = [v] ∧ Th K H v d ∧ okSum d ∧ ∀ v' H', Same H H' → SumV K H' v' (readSum d) → Q v' H'
abbrev sReadSum : Stmt := topS 20
theorem scReadSum : FnScope ["thing", "multiples", "part", "unknown"] ["thing"] (defScope sReadSum) := ⟨rfl, rfl, rfl, by decide +kernel, rfl, by decide +kernel, by decide +kernel⟩
theorem row_sq {K : PySem.W.Frag} {H H' : Hp} {a : Addr} {xs : List V} (e : Same H H') (h : SqL K H a xs ∨ SqT K H a xs) : SqL K H' a xs ∨ SqT K H' a xs := h.imp (sqL_same e) (sqT_same e)
theorem ix_row {K : PySem.W.Frag} {H : Hp} {a : Addr} {xs : List V} {i : Int} {v : V} {Q : VK} (h : SqL K H a xs ∨ SqT K H a xs) (e : atI xs i = some v) (q : Q v H) : rIx K (.ref a) (.int i) H Q := by
  rcases h with h | h
  · exact .inl ⟨a, xs, i, v, rfl, rfl, h, e, q⟩
  · exact .inr (.inl ⟨a, xs, i, v, rfl, rfl, h, e, q⟩)
theorem rd_drop {H : Hp} {D b : Addr} {o u : HO} (h : Rd (upd H D o) b u) (h1 : o ≠ u) (h2 : ∀ x, o ≠ .frz x u) : Rd H b u := by
  have hb : b ≠ D := fun z => by
    rcases h with h | ⟨x, h⟩
    · rw [z, upd_same] at h
      exact h1 (Option.some.inj h)
    · rw [z, upd_same] at h
      exact h2 x (Option.some.inj h)
  rcases h with h | ⟨x, h⟩
  · rw [upd_ne hb] at h
    exact .inl h
  · rw [upd_ne hb] at h
    exact .inr ⟨x, h⟩
theorem sqL_drop {K : PySem.W.Frag} {H : Hp} {D b : Addr} {k : List (List Key × V)} {xs : List V} (h : SqL K (upd H D (.dT k)) b xs) : SqL K H b xs := by
  rcases h with h | h
  · exact .inl (rd_drop h (by intro z; cases z) (by intro x z; cases z))
  · exact .inr h
theorem sqT_drop {K : PySem.W.Frag} {H : Hp} {D b : Addr} {k : List (List Key × V)} {xs : List V} (h : SqT K (upd H D (.dT k)) b xs) : SqT K H b xs := by
  rcases h with h | h
  · exact .inl (rd_drop h (by intro z; cases z) (by intro x z; cases z))
  · exact .inr h
theorem row_drop {K : PySem.W.Frag} {H : Hp} {D b : Addr} {k : List (List Key × V)} {xs : List V} (h : SqL K (upd H D (.dT k)) b xs ∨ SqT K (upd H D (.dT k)) b xs) : SqL K H b xs ∨ SqT K H b xs := h.imp sqL_drop sqT_drop
theorem dps_get {K : PySem.W.Frag} {H : Hp} : ∀ {vs : List V} {ds : List PyData}, DpAll K H vs ds → ∀ {i : Nat} {v : V}, vs[i]? = some v → ∃ d, ds[i]? = some d ∧ Dp K H v d
  | _, _, .nil, i, v, h => by simp at h
  | _, _, .cons g t, 0, v, e => by
    obtain rfl : _ = v := Option.some.inj e
    exact ⟨_, rfl, g⟩
  | _, _, .cons g t, i + 1, v, e => dps_get t (i := i) e
theorem parts_split {ds : List PyData} {i : Nat} {dp : PyData} (h : ds[i]? = some dp) : ds = ds.take i ++ dp :: ds.drop (i + 1) := by
  have hi : i < ds.length := (List.getElem?_eq_some_iff.mp h).1
  have e : ds[i] = dp := (List.getElem?_eq_some_iff.mp h).2
  rw [← e, ← List.drop_eq_getElem_cons hi]
  exact (List.take_append_drop i ds).symm
theorem parts_stop {ds : List PyData} {i : Nat} {dp : PyData} {acc : Mul} (h : ds[i]? = some dp) (h1 : readParts (ds.take i) [] = some acc) (h2 : addPart acc dp = none) : readParts ds [] = none := by
  rw [parts_split h, readParts_app, h1]
  show (addPart acc dp).bind _ = none
  rw [h2]
  rfl
theorem parts_more {ds : List PyData} {i : Nat} {dp : PyData} {acc acc' : Mul} (h : ds[i]? = some dp) (h1 : readParts (ds.take i) [] = some acc) (h2 : addPart acc dp = some acc') : readParts (ds.take (i + 1)) [] = some acc' := by
  rw [List.take_add_one, h, readParts_app, h1]
  show (addPart acc dp).bind (readParts []) = some acc'
  rw [h2]
  rfl
theorem getD_val (acc : Mul) (u : List Key) : (valV (vKv acc) u).getD (.int 0) = .int (getI acc u) := by
  rw [valV_kv]
  unfold getI
  cases acc.find? fun kv => decide (kv.1 = u) with
  | none => rfl
  | some p => rfl
/-- two items -/
theorem dps_two {K : PySem.W.Frag} {H : Hp} {xs : List V} {a b : PyData} (h : DpAll K H xs [a, b]) : ∃ x y, xs = [x, y] ∧ Dp K H x a ∧ Dp K H y b := by
  cases h with
  | cons h1 h => cases h with
    | cons h2 h =>
      cases h
      exact ⟨_, _, rfl, h1, h2⟩
theorem rof_two {d : PyData} (h : isRof d 2 = true) : ∃ a b, items d = some [a, b] := by
  unfold isRof at h
  cases e : items d with
  | none => rw [e] at h; cases h
  | some xs =>
    rw [e] at h
    have e' : ((xs.length : Int) = 2) := of_decide_eq_true h
    match xs, e' with
    | [x, y], _ => exact ⟨x, y, rfl⟩
    | [], z => exact absurd z (by decide)
    | [_], z => exact absurd z (by simp)
    | _ :: _ :: _ :: _, z => simp at z; omega
theorem rof_not {d : PyData} (h : isRof d 2 = false) : ∀ a b, items d ≠ some [a, b] := by
  intro a b e
  unfold isRof at h
  rw [e] at h
  cases h
theorem at2 {a b : V} (i : Nat) (v : V) (h : [a, b][i]? = some v) : atI [a, b] (i : Int) = some v := by
  have hi : i < 2 := (List.getElem?_eq_some_iff.mp h).1
  unfold atI ixN
  rw [if_pos (by omega), if_pos (by show (i : Int) < ((2 : Nat) : Int); omega)]
  show ([a, b] : List V)[((i : Int)).toNat]? = _
  rw [Int.toNat_natCast]
  exact h
section
variable {P : Program} {w : World} {K : PySem.W.Frag} {mg : Str → Option Value} {base : Heap}
theorem ok_readSum {f : Addr} {fd : FuncData} (F : Fun K "read_sum" "read_sum" sReadSum f fd) (G1 : Has P w K mg base CX0 3 "is_integer" ["thing"] (spIsInt K)) (G2 : Has P w K mg base CX0 3 "is_row_of" ["thing", "many"] (spIsRowOf K))
    (G3 : Has P w K mg base CX0 3 "is_row" ["thing"] (spIsRow K)) (G4 : Has P w K mg base CX0 3 "read_unknown" ["thing"] (spReadUnk K)) (G5 : Has P w K mg base CX0 3 "one_form" ["number", "multiples"] (spOneForm K)) :
    FnOk P w K mg base CX0 4 f fd ["thing"] (spReadSum K) := by
  refine F.ok scReadSum (fun vs H Q E h => ?_) (fun cdv A outer s H vs Q E hr h => ?_)
  · obtain ⟨v, d, rfl, _⟩ := h
    rfl
  · obtain ⟨v, d, rfl, th, ok, q⟩ := h
    have hu := hu_of hr
    refine ⟨_, (pss_cons (ps_if (pt_val (pe_callH G1 hr (by rfl) pass0 (pa_cons (pv 0) pa_nil))) (pss_one (ps_ret (pe_tup (pa_cons (pv 0) (pa_cons (pe_tup pa_nil) pa_nil))))) pss_nil)
      (pss_cons (ps_if (PW.pt (pw_or (pt_not (pt_val (pe_callH G2 hr (by rfl) pass0 (pa_cons (pv 0) (pa_cons pe_int pa_nil))))) (pw_or (pt_not (pt_val (pe_callH G1 hr (by rfl) pass0 (pa_cons (pe_ix ix_seq (pv 0) pe_int (fun _ _ => rfl)) pa_nil)))) (pw_or1 (pt_not (pt_val (pe_callH G3 hr (by rfl) pass0 (pa_cons (pe_ix ix_seq (pv 0) pe_int (fun _ _ => rfl)) pa_nil)))))))) (pss_one (ps_ret pe_non)) pss_nil)
      (pss_cons (ps_set (i := 1) scReadSum.nd rfl (.inl rfl) (pe_dnewT))
      (pss_cons (ps_for PassesOwn.never rfl (pi_seq (pe_ix ix_seq (pv 0) pe_int (fun _ _ => rfl))) (pg_name (i := 2) scReadSum.nd rfl (.inl rfl)) (pss_cons (ps_if (PW.pt (pw_or (pt_not (pt_val (pe_callH G2 hr (by rfl) pass0 (pa_cons (pv 2) (pa_cons pe_int pa_nil))))) (pw_or1 (pt_not (pt_val (pe_callH G1 hr (by rfl) pass0 (pa_cons (pe_ix ix_seq (pv 2) pe_int (fun _ _ => rfl)) pa_nil))))))) (pss_one (ps_ret pe_non)) pss_nil)
      (pss_cons (ps_set (i := 3) scReadSum.nd rfl (.inl rfl) (pe_callH G4 hr (by rfl) pass0 (pa_cons (pe_ix ix_seq (pv 2) pe_int (fun _ _ => rfl)) pa_nil)))
      (pss_cons (ps_if (pt_cmpR op_isN (pv 3) pe_non (nomark _)) (pss_one (ps_ret pe_non)) pss_nil)
      (pss_one (ps_dput hu (pv 1) (pv 3) (pe_op op_add (pe_dget2 hu (pv 1) (pv 3) pe_int ⟨rfl, rfl, rfl, rfl⟩) (pe_ix ix_seq (pv 2) pe_int (fun _ _ => rfl))) rfl))))))
      (pss_one (ps_ret (pe_callH G5 hr (by rfl) pass0 (pa_cons (pe_ix ix_seq (pv 0) pe_int (fun _ _ => rfl)) (pa_cons (pv 1) pa_nil))))))))), ?_⟩
    refine ⟨_, rfl, v, d, rfl, th, _, rfl, ?_⟩
    cases ei : isI d with
    | true =>
      obtain ⟨n, rfl⟩ : ∃ n, d = .int n := by
        cases d with
        | int n => exact ⟨n, rfl⟩
        | _ => cases ei
      obtain rfl : v = .int n := by
        cases th with
        | dat h => cases h; rfl
      refine iteT ⟨_, rfl, Nat.zero_le _, fun e he => ⟨(by show 2 ≤ sizeLine; decide), fun p hp => ?_⟩⟩
      refine q _ _ ((same_new he).trans (same_new hp)) ?_
      have ee : (upd (upd H e (.tup [])) p (.tup [.int n, .ref e])) e = some (.tup []) := same_new hp _ _ upd_same
      exact ⟨p, e, [], rfl, upd_same, ee, .nil⟩
    | false =>
      refine iteF ?_
      have rs : readSum d = match items d with
        | some [.int n, q] => (items q).bind fun ds => (readParts ds []).map fun kvs => (n, form kvs)
        | _ => none := by
        cases d with
        | int n => cases ei
        | _ => rfl
      refine ⟨_, rfl, v, d, 2, rfl, th, fun H1 sm1 => ⟨_, rfl, ?_⟩⟩
      cases e2 : isRof d 2 with
      | false =>
        refine iteT (q _ _ sm1 ?_)
        have z : readSum d = none := by
          rw [rs]
          split
          · rename_i n q' e
            exact absurd e (rof_not e2 _ _)
          · rfl
        rw [z]
        rfl
      | true =>
        refine iteF ?_
        obtain ⟨d1, dq, e3⟩ := rof_two e2
        obtain ⟨a, xs, rfl, hs, ha⟩ := th_row (th_same sm1 th) e3
        obtain ⟨v1, vq, rfl, h1, h2⟩ := dps_two ha
        refine ⟨_, rfl, ix_row hs (at2 0 v1 rfl) ?_⟩
        refine ⟨v1, d1, rfl, .dat h1, _, rfl, ?_⟩
        cases ei1 : isI d1 with
        | false =>
          refine iteT (q _ _ sm1 ?_)
          have z : readSum d = none := by
            rw [rs, e3]
            cases d1 with
            | int n => cases ei1
            | _ => rfl
          rw [z]
          rfl
        | true =>
          obtain ⟨n, rfl⟩ : ∃ n, d1 = .int n := by
            cases d1 with
            | int n => exact ⟨n, rfl⟩
            | _ => cases ei1
          cases h1
          rw [e3] at rs
          refine iteF ⟨_, rfl, ix_row hs (at2 1 vq rfl) ⟨vq, dq, rfl, .dat h2, fun H2 sm2 => ⟨_, rfl, ?_⟩⟩⟩
          rw [isR_items]
          cases e4 : items dq with
          | none =>
            refine iteT (q _ _ (sm1.trans sm2) ?_)
            have z : readSum d = none := by
              rw [rs]
              show (items dq).bind _ = none
              rw [e4]
              rfl
            rw [z]
            rfl
          | some ds =>
            obtain ⟨hlen, hok⟩ := ok n dq ds e3 e4
            have rs2 : readSum d = (readParts ds []).map fun kvs => (n, form kvs) := by
              rw [rs]
              show (items dq).bind _ = _
              rw [e4]
              rfl
            have hs2 := row_sq sm2 hs
            obtain ⟨b, ys, rfl, hb, hby⟩ := th_row (th_same sm2 (.dat h2)) e4
            refine iteF fun D hD => ?_
            have sm3 := sm1.trans (sm2.trans (same_new (o := .dT []) hD))
            refine ⟨_, rfl, ix_row (row_sq (same_new hD) hs2) (at2 1 _ rfl) ⟨b, ys, rfl, row_sq (same_new hD) hb, fun J G W hG => ?_⟩⟩
            have ly : ys.length = ds.length := dps_len hby
            have keyless : ∀ x ∈ ([] : Mul).map Prod.fst, NmU x := fun x hx => by simp at hx
            refine for_it W (fun i σ H4 => ∃ (acc : Mul) (p u : Option V), σ = [some (.ref a), some (.ref D), p, u] ∧ Same H2 H4 ∧ H4 D = some (.dT (vKv acc)) ∧ readParts (ds.take i) [] = some acc ∧ (∀ x ∈ acc.map Prod.fst, NmU x) ∧ acc.length ≤ i)
              ⟨[], none, none, rfl, same_new hD, upd_same, rfl, keyless, Nat.le_refl _⟩ (fun i σ H4 _ ⟨_, _, _, _, s4, _⟩ => hG H4 (fun z => sqL_same s4 (sqL_drop z)) (fun z => sqT_same s4 (sqT_drop z))) ?_ ?_
            · rintro i x σ H4 H4' hi ⟨acc, p, u, rfl, s4, hD4, hrp, hnm, hal⟩ ⟨rfl, hx⟩
              obtain ⟨dp, hdp, hxd⟩ := dps_get hby hx
              have hxd4 := dp_same s4 hxd
              have hokp := hok dp (List.mem_of_getElem? hdp)
              have stop : addPart acc dp = none → readSum d = none := by
                intro e
                rw [rs2, parts_stop hdp hrp e]
                rfl
              refine ⟨_, rfl, x, dp, 2, rfl, .dat hxd4, fun H5 s5 => ⟨_, rfl, ?_⟩⟩
              cases e5 : isRof dp 2 with
              | false =>
                refine iteT (q _ _ ((sm1.trans sm2).trans (s4.trans s5)) ?_)
                rw [stop (by
                  unfold addPart
                  split
                  · rename_i x' m' e
                    exact absurd e (rof_not e5 _ _)
                  · rfl)]
                rfl
              | true =>
                obtain ⟨pu, pm, e6⟩ := rof_two e5
                obtain ⟨c, zs, rfl, hc, hcd⟩ := th_row (.dat (dp_same s5 hxd4)) e6
                obtain ⟨w1, w2, rfl, g1, g2⟩ := dps_two hcd
                refine iteF ⟨_, rfl, ix_row hc (at2 1 w2 rfl) ⟨w2, pm, rfl, .dat g2, _, rfl, ?_⟩⟩
                cases e7 : isI pm with
                | false =>
                  refine iteT (q _ _ ((sm1.trans sm2).trans (s4.trans s5)) ?_)
                  rw [stop (by
                    unfold addPart
                    rw [e6]
                    cases pm with
                    | int m => cases e7
                    | _ => rfl)]
                  rfl
                | true =>
                  obtain ⟨m, rfl⟩ : ∃ m, pm = .int m := by
                    cases pm with
                    | int m => exact ⟨m, rfl⟩
                    | _ => cases e7
                  cases g2
                  obtain ⟨shp, hnu⟩ := hokp pu m e6
                  refine iteF ⟨_, rfl, ix_row hc (at2 0 w1 rfl) ⟨w1, pu, rfl, .dat g1, shp, fun vu H6 s6 hvu => ?_⟩⟩
                  have ea : addPart acc dp = (readUnk pu).map fun u => putI acc u (getI acc u + m) := by
                    unfold addPart
                    rw [e6]
                  cases e8 : readUnk pu with
                  | none =>
                    rw [e8] at hvu ea
                    obtain rfl : vu = .non := hvu
                    refine ⟨_, rfl, rfl, _, rfl, iteT (q _ _ ((sm1.trans sm2).trans ((s4.trans s5).trans s6)) ?_)⟩
                    rw [stop ea]
                    rfl
                  | some uu =>
                    rw [e8] at hvu ea
                    obtain ⟨au, rfl, hau⟩ := hvu
                    have hD6 : H6 D = some (.dT (vKv acc)) := s6 _ _ (s5 _ _ hD4)
                    refine ⟨_, rfl, rfl, _, rfl, iteF ?_⟩
                    refine ⟨_, rfl, D, rfl, .inr ⟨_, .inl hD6⟩, _, rfl, _, DGet.t hD6 hau, _, rfl, ix_row (row_sq s6 hc) (at2 1 _ rfl) ⟨getI acc uu, m, getD_val acc uu, rfl, ?_⟩⟩
                    have hi2 : i < ds.length := (List.getElem?_eq_some_iff.mp hdp).1
                    refine ⟨_, rfl, _, rfl, D, _, rfl, DPut.t hD6 hau (by
                      show (List.map _ acc).length < sizeLine
                      rw [List.length_map]
                      exact small1000 (by omega)), ?_⟩
                    rw [put_vKv]
                    refine ⟨_, _, _, rfl, fun b o e => ?_, upd_same, parts_more hdp hrp ea, putI_keys (hnu uu e8) hnm, Nat.le_trans (putI_len _ _ _) (by omega)⟩
                    rw [upd_ne (ne_of_none e hD)]
                    exact s6 _ _ (s5 _ _ (s4 _ _ e))
            · rintro σ H4 ⟨acc, p, u, rfl, s4, hD4, hrp, hnm, hal⟩
              rw [ly, List.take_length] at hrp
              rw [ly] at hal
              refine ⟨_, rfl, ix_row (row_sq s4 hs2) (at2 0 _ rfl) ⟨_, rfl, n, D, acc, rfl, hD4, hnm, by omega, fun v' H5 s5 hv => ?_⟩⟩
              refine q _ _ ((sm1.trans sm2).trans (s4.trans s5)) ?_
              rw [rs2, hrp]
              exact hv
end
end DR

namespace DR
open PySem PySem.Spec PyProof.Rows L2
/-! ### the order of unknowns -/
theorem data_tot {β : Type} (k : β → PyData) : PySem.W.TotalLe (PySem.W.dataLe false k) := by
  unfold PySem.W.dataLe
  exact PySem.W.sortLe_total _ _ _
theorem tot_or {β : Type} {r : β → β → Bool} (h : PySem.W.TotalLe r) (a b : β) : (r a b || r b a) = true := by
  rcases h.total a b with h | h
  · rw [h]
    rfl
  · rw [h, Bool.or_true]
theorem le2_trans : ∀ a b c, le2 a b = true → le2 b c = true → le2 a c = true := (data_tot keyD).trans
theorem le2_total : ∀ a b, (le2 a b || le2 b a) = true := tot_or (data_tot keyD)
theorem str_lt_irr (z : Str) : ¬ z.cps.toList < z.cps.toList := List.lt_irrefl _
theorem str_anti {z z' : Str} (h1 : ¬ z.cps.toList < z'.cps.toList) (h2 : ¬ z'.cps.toList < z.cps.toList) : z = z' := by
  have e : z.cps.toList = z'.cps.toList := List.le_antisymm (List.not_lt.mp h2) (List.not_lt.mp h1)
  obtain ⟨⟨l⟩⟩ := z
  obtain ⟨⟨l'⟩⟩ := z'
  have e' : l = l' := e
  rw [e']
/-- what is not less either way is the same -/
theorem toks_same {a b : PyData} (h1 : PySem.W.dataLt a b = false) (h2 : PySem.W.dataLt b a = false) : PySem.W.keyToks a = PySem.W.keyToks b := lex_total (O := itemOrd) _ _ h1 h2
theorem kD_toks {o o' : Key} {l m : List (Int ⊕ List Nat)} (h : PySem.W.keyToks (kD o) ++ l = PySem.W.keyToks (kD o') ++ m) : o = o' := by
  cases o with
  | inl i =>
    cases o' with
    | inl j =>
      have e := (List.cons.inj (show Sum.inl i :: l = Sum.inl j :: m from h)).1
      rw [Sum.inl.inj e]
    | inr z => exact nomatch (List.cons.inj (show (Sum.inl i : Int ⊕ List Nat) :: l = Sum.inr z.cps.toList :: m from h)).1
  | inr z =>
    cases o' with
    | inl j => exact nomatch (List.cons.inj (show (Sum.inr z.cps.toList : Int ⊕ List Nat) :: l = Sum.inl j :: m from h)).1
    | inr z' =>
      have e := (List.cons.inj (show Sum.inr z.cps.toList :: l = Sum.inr z'.cps.toList :: m from h)).1
      rw [PySem.W.str_of_cps (Sum.inr.inj e)]
theorem key_inj {a b : List Key} (ha : NmU a) (hb : NmU b) (h : PySem.W.keyToks (keyD a) = PySem.W.keyToks (keyD b)) : a = b := by
  obtain ⟨k, o, rfl, h1, _⟩ := ha
  obtain ⟨k', o', rfl, h1', _⟩ := hb
  rw [keyD_is, keyD_is] at h
  have h' : (Sum.inl 1 :: Sum.inl ((rank k).getD 0) :: Sum.inl 1 :: (PySem.W.keyToks (kD o) ++ [Sum.inl 0]) : List (Int ⊕ List Nat)) = Sum.inl 1 :: Sum.inl ((rank k').getD 0) :: Sum.inl 1 :: (PySem.W.keyToks (kD o') ++ [Sum.inl 0]) := by
    have := h
    simp only [PySem.W.keyToks, PySem.W.keyToksAll, List.cons_append, List.nil_append] at this
    exact this
  have e1 := (List.cons.inj (List.cons.inj h').2).1
  have e2 := (List.cons.inj (List.cons.inj (List.cons.inj h').2).2).2
  rw [rank_inj h1 h1' (Sum.inl.inj e1), kD_toks e2]
theorem le2_def (a b : List Key) : le2 a b = !PySem.W.dataLt (keyD b) (keyD a) := rfl
theorem le2_anti : ∀ a b, NmU a → NmU b → le2 a b = true → le2 b a = true → a = b := by
  intro a b ha hb h1 h2
  rw [le2_def, Bool.not_eq_true'] at h1 h2
  exact key_inj ha hb (toks_same h2 h1)
/-! ### sums as sums over their parts -/
/-- the parts' worth, each unknown worth F of it -/
def lin (F : List Key → Int) : Mul → Int
  | [] => 0
  | p :: l => p.2 * F p.1 + lin F l
theorem lin_app (F : List Key → Int) : ∀ l m : Mul, lin F (l ++ m) = lin F l + lin F m
  | [], m => by simp [lin]
  | p :: l, m => by
    show p.2 * F p.1 + lin F (l ++ m) = _
    rw [lin_app F l m]
    simp only [lin]
    omega
def NodK (l : Mul) : Prop := (l.map (·.1)).Nodup
theorem getI_nil (u : List Key) : getI [] u = 0 := rfl
theorem getI_cons (p : List Key × Int) (l : Mul) (u : List Key) : getI (p :: l) u = if p.1 = u then p.2 else getI l u := by
  unfold getI
  rw [List.find?_cons]
  by_cases h : p.1 = u
  · simp [h]
  · simp [h]
theorem getI_not {l : Mul} {u : List Key} (h : u ∉ l.map (·.1)) : getI l u = 0 := by
  induction l with
  | nil => rfl
  | cons p l ih =>
    rw [List.map_cons, List.mem_cons, not_or] at h
    rw [getI_cons, if_neg fun e => h.1 e.symm]
    exact ih h.2
theorem any_key {l : Mul} {u : List Key} : (l.any fun kv => decide (kv.1 = u)) = true ↔ u ∈ l.map (·.1) := by
  rw [List.any_eq_true, List.mem_map]
  constructor
  · rintro ⟨p, hp, e⟩
    exact ⟨p, hp, of_decide_eq_true e⟩
  · rintro ⟨p, hp, e⟩
    exact ⟨p, hp, decide_eq_true e⟩
theorem map_not {l : Mul} {u : List Key} (m : Int) (h : u ∉ l.map (·.1)) : l.map (fun kv => if kv.1 = u then (kv.1, m) else kv) = l := by
  induction l with
  | nil => rfl
  | cons p l ih =>
    rw [List.map_cons, List.mem_cons, not_or] at h
    rw [List.map_cons, ih h.2, if_neg fun e => h.1 e.symm]
theorem putI_in {l : Mul} {u : List Key} (m : Int) (h : u ∈ l.map (·.1)) : (putI l u m).map (·.1) = l.map (·.1) := by
  unfold putI
  rw [if_pos (any_key.mpr h), List.map_map]
  apply List.map_congr_left
  intro p _
  show (if p.1 = u then (p.1, m) else p).1 = p.1
  split <;> rfl
theorem putI_out {l : Mul} {u : List Key} (m : Int) (h : u ∉ l.map (·.1)) : putI l u m = l ++ [(u, m)] := by
  unfold putI
  rw [if_neg (fun z => h (any_key.mp z))]
theorem nodK_put {l : Mul} (h : NodK l) (u : List Key) (m : Int) : NodK (putI l u m) := by
  unfold NodK
  cases Classical.em (u ∈ l.map (·.1)) with
  | inl z =>
    rw [putI_in m z]
    exact h
  | inr z =>
    rw [putI_out m z, List.map_append]
    refine List.nodup_append.mpr ⟨h, (by simp), fun a ha b hb e => ?_⟩
    have hb' : b = u := by simpa using hb
    exact z (hb' ▸ e ▸ ha)
theorem lin_map {F : List Key → Int} {u : List Key} {m : Int} : ∀ {l : Mul}, NodK l → u ∈ l.map (·.1) → lin F (l.map (fun kv => if kv.1 = u then (kv.1, m) else kv)) = lin F l + (m - getI l u) * F u
  | [], _, h => by simp at h
  | p :: l, nd, h => by
    have nd' := List.nodup_cons.mp (show (p.1 :: l.map (·.1)).Nodup from nd)
    rw [List.map_cons]
    by_cases c : p.1 = u
    · rw [if_pos c, map_not m (c ▸ nd'.1), getI_cons, if_pos c]
      show m * F p.1 + lin F l = p.2 * F p.1 + lin F l + _
      rw [c, Int.sub_mul]
      omega
    · have h2 : u ∈ l.map (·.1) := by
        rcases List.mem_cons.mp h with z | z
        · exact absurd z.symm c
        · exact z
      rw [if_neg c, getI_cons, if_neg c]
      show p.2 * F p.1 + lin F _ = p.2 * F p.1 + lin F l + _
      rw [lin_map nd'.2 h2]
      omega
theorem lin_put {F : List Key → Int} {l : Mul} (nd : NodK l) (u : List Key) (m : Int) : lin F (putI l u (getI l u + m)) = lin F l + m * F u := by
  unfold putI
  by_cases h : u ∈ l.map (·.1)
  · rw [if_pos (any_key.mpr h), lin_map nd h]
    have e : getI l u + m - getI l u = m := by omega
    rw [e]
  · rw [if_neg (fun z => h (any_key.mp z)), lin_app, getI_not h]
    simp [lin]
/-- whether it is v -/
def isU (v : List Key) (u : List Key) : Int := if u = v then 1 else 0
theorem getI_lin {l : Mul} (nd : NodK l) (v : List Key) : getI l v = lin (isU v) l := by
  induction l with
  | nil => rfl
  | cons p l ih =>
    have nd' := List.nodup_cons.mp (show (p.1 :: l.map (·.1)).Nodup from nd)
    rw [getI_cons]
    show _ = p.2 * isU v p.1 + lin (isU v) l
    rw [← ih nd'.2]
    unfold isU
    by_cases c : p.1 = v
    · rw [if_pos c, if_pos c, getI_not (c ▸ nd'.1)]
      omega
    · rw [if_neg c, if_neg c]
      omega
theorem lin_perm {F : List Key → Int} {l m : Mul} (h : l.Perm m) : lin F l = lin F m := by
  induction h with
  | nil => rfl
  | cons x _ ih => simp only [lin, ih]
  | swap x y l =>
    simp only [lin]
    omega
  | trans _ _ i1 i2 => exact i1.trans i2
theorem lin_keys {F : List Key → Int} (g : List Key → Int) : ∀ us : List (List Key), lin F ((us.filter fun u => !decide (g u = 0)).map fun u => (u, g u)) = lin F (us.map fun u => (u, g u))
  | [] => rfl
  | u :: us => by
    rw [List.filter_cons, List.map_cons]
    show _ = g u * F u + lin F _
    rw [← lin_keys g us]
    by_cases c : g u = 0
    · simp [c]
    · simp [c, lin]
theorem lin_self {F : List Key → Int} : ∀ {l : Mul}, NodK l → (l.map (·.1)).map (fun u => (u, getI l u)) = l
  | [], _ => rfl
  | p :: l, nd => by
    have nd' := List.nodup_cons.mp (show (p.1 :: l.map (·.1)).Nodup from nd)
    rw [List.map_cons, List.map_cons, getI_cons, if_pos rfl]
    refine congrArg (p :: ·) (Eq.trans ?_ (lin_self (F := F) nd'.2))
    apply List.map_congr_left
    intro u hu
    rw [getI_cons, if_neg]
    intro e
    exact nd'.1 (e ▸ hu)
theorem lin_form {F : List Key → Int} {l : Mul} (nd : NodK l) : lin F (form l) = lin F l := by
  unfold form
  rw [lin_perm ((List.mergeSort_perm (keysN l) le2).map fun u => (u, getI l u))]
  unfold keysN
  rw [lin_keys (getI l), lin_self (F := F) nd]
theorem keysN_mem {l : Mul} {u : List Key} : u ∈ keysN l ↔ getI l u ≠ 0 := by
  unfold keysN
  rw [List.mem_filter]
  constructor
  · rintro ⟨_, h⟩ e
    simp [e] at h
  · intro h
    refine ⟨?_, by simp [h]⟩
    cases Classical.em (u ∈ l.map (·.1)) with
    | inl z => exact z
    | inr z => exact absurd (getI_not z) h
theorem keysN_nod {l : Mul} (nd : NodK l) : (keysN l).Nodup := List.Nodup.sublist List.filter_sublist nd
def NmK (l : Mul) : Prop := ∀ u ∈ l.map (·.1), NmU u
theorem keysN_nm {l : Mul} (h : NmK l) : ∀ u ∈ keysN l, NmU u := fun u hu => h u (List.mem_filter.mp hu).1
/-- a row of unknowns in order is the one in order -/
theorem sort_one {us vs : List (List Key)} (h : ∀ u ∈ us, NmU u) (p : us.Perm vs) (o : us.Pairwise fun a b => le2 a b = true) : vs.mergeSort le2 = us := by
  have pm : us.Perm (vs.mergeSort le2) := p.trans (List.mergeSort_perm vs le2).symm
  have o2 : (vs.mergeSort le2).Pairwise fun a b => le2 a b = true := List.pairwise_mergeSort le2_trans le2_total vs
  exact (pm.eq_of_pairwise (fun a b ha hb h1 h2 => le2_anti a b (h a ha) (h b (pm.mem_iff.mpr hb)) h1 h2) o o2).symm
theorem form_eq {l m : Mul} (nl : NodK l) (nm : NodK m) (kl : NmK l) (e : ∀ u, getI l u = getI m u) : form l = form m := by
  have hp : (keysN l).Perm (keysN m) := (List.perm_ext_iff_of_nodup (keysN_nod nl) (keysN_nod nm)).mpr fun u => by rw [keysN_mem, keysN_mem, e u]
  have q : (keysN m).mergeSort le2 = (keysN l).mergeSort le2 := by
    refine sort_one (fun u hu => keysN_nm kl u ((List.mergeSort_perm _ _).mem_iff.mp hu)) ((List.mergeSort_perm _ _).trans hp) ?_
    exact List.pairwise_mergeSort le2_trans le2_total _
  unfold form
  rw [q]
  apply List.map_congr_left
  intro u _
  rw [e u]
/-! ### parts added -/
/-- one part added -/
def addP (kvs : Mul) (u : List Key) (m : Int) : Mul := putI kvs u (getI kvs u + m)
theorem addP_keys {l : Mul} {u : List Key} {m : Int} {Pr : List Key → Prop} (h : ∀ x ∈ l.map (·.1), Pr x) (hu : Pr u) : ∀ x ∈ (addP l u m).map (·.1), Pr x := by
  unfold addP
  intro x hx
  cases Classical.em (u ∈ l.map (·.1)) with
  | inl z =>
    rw [putI_in _ z] at hx
    exact h x hx
  | inr z =>
    rw [putI_out _ z, List.map_append] at hx
    rcases List.mem_append.mp hx with hx | hx
    · exact h x hx
    · have e : x = u := by simpa using hx
      rw [e]
      exact hu
theorem addP_len (l : Mul) (u : List Key) (m : Int) : (addP l u m).length ≤ l.length + 1 := putI_len _ _ _
/-- the parts of a sum, added up -/
def accAll (l : Mul) : Mul := l.foldl (fun a q => addP a q.1 q.2) []
theorem acc_go : ∀ (l s : Mul), NodK s → NodK (l.foldl (fun a q => addP a q.1 q.2) s) ∧ ∀ F, lin F (l.foldl (fun a q => addP a q.1 q.2) s) = lin F s + lin F l
  | [], s, nd => ⟨nd, fun F => by simp [lin]⟩
  | q :: l, s, nd => by
    rw [List.foldl_cons]
    obtain ⟨h1, h2⟩ := acc_go l (addP s q.1 q.2) (nodK_put nd _ _)
    refine ⟨h1, fun F => ?_⟩
    rw [h2 F]
    unfold addP
    rw [lin_put nd]
    simp only [lin]
    omega
theorem acc_lin (l : Mul) (F : List Key → Int) : lin F (form (accAll l)) = lin F l := by
  obtain ⟨h1, h2⟩ := acc_go l [] List.nodup_nil
  unfold accAll
  rw [lin_form h1, h2]
  simp [lin]
end DR

namespace DR
open PySem PySem.Spec PyProof.Rows L2
/-! ### own errors of one field -/
/-- __init__ stores its argument under f -/
def spErrInit (K : PySem.W.Frag) (C : Addr) (f : Str) : Sp := fun vs H Q _ => ∃ a y, vs = [.ref a, y] ∧ H a = some (exo a C none) ∧ ∀ dx, H dx = none → dx ≠ a → Q .non (upd (upd H dx (exd dx [(f, y)])) a (exo a C (some dx)))
/-- what is known of such a class x at C -/
structure Err (P : Program) (w : World) (K : PySem.W.Frag) (mg : Str → Option Value) (base : Heap) (x : Str) (C : Addr) (f : Str) : Prop where
  g : mg x = some (.ref C)
  T : OexC K C
  no : PySem.W.findIn K (.ref C) f = some none
  xf : XfC K C
  te : PySem.W.exmOne K (.ref C) (.ref C) = some true
  ini : ∃ (fI : Addr) (fd : FuncData) (p2 : Str), PySem.W.findIn K (.ref C) "__init__" = some (some (.ref fI)) ∧ PySem.W.typeIn K (.ref fI) = some (.type "function") ∧ Binds K fd ["self", p2] [] ∧ FnOk P w K mg base CX0 1 fI fd ["self", p2] (spErrInit K C f)
theorem err_go {K : PySem.W.Frag} {C : Addr} {f : Str} {y : V} {H1 : Hp} {Q : XK} (q : ∀ dx, H1 dx = none → Q (.ref C) (some dx) (upd H1 dx (.xd [(f, y)]))) :
    [y].length ≤ 1000 ∧ ∀ a, H1 a = none → spErrInit K C f (.ref a :: ([y] ++ [])) (upd H1 a (exo a C none)) (fun v H2 => v = .non ∧ ∃ (d : Addr) (fs : List (Str × V)), H2 a = some (exo a C (some d)) ∧ H2 d = some (exd d fs) ∧ H1 d = none ∧ Q (.ref C) (some d) (upd (del H2 a) d (.xd fs))) (fun _ _ _ => False) := by
  refine ⟨(by show 1 ≤ 1000; decide), fun a ha => ⟨a, y, rfl, upd_same, fun dx hdx hne => ⟨rfl, dx, [(f, y)], upd_same, ?_, ?_, ?_⟩⟩⟩
  · rw [upd_ne hne, upd_same]
  · rw [upd_ne hne] at hdx
    exact hdx
  · have h1 : H1 dx = none := by
      rw [upd_ne hne] at hdx
      exact hdx
    have e : upd (del (upd (upd (upd H1 a (exo a C none)) dx (exd dx [(f, y)])) a (exo a C (some dx))) a) dx (.xd [(f, y)]) = upd H1 dx (.xd [(f, y)]) := by
      funext b
      by_cases hb : b = dx
      · rw [hb, upd_same, upd_same]
      · rw [upd_ne hb, upd_ne hb]
        by_cases hb2 : b = a
        · rw [hb2, del_same, ha]
        · rw [del_ne hb2, upd_ne hb2, upd_ne hb, upd_ne hb2]
    rw [e]
    exact q dx h1
def tRaise1 (K : PySem.W.Frag) (C : Addr) (f : Str) (te : TE) (W : WX) : TS := fun _ σ H => tMkO C (spErrInit K C f) [] (tCons te tNil) σ H fun cls d H' => W cls d σ H'
theorem ps_err {X : Cx} {W : WX} {x f : Str} {C : Addr} {e : Expr} {te : TE} {p pos pos2 : Pos} {k : Nat} (hc : X.calm = true) (tk : Takes X W) (T : Err X.prog X.w X.K X.mg X.base x C f) (hr : Room k X.A) (h2 : 2 ≤ k) (he : PE X e te) (hg : Gl X x := by rfl)
    (hdb : (x == ("__debug__" : Str)) = false := by decide) (hs : starEach (e :: []) X.env = (false, eval e X.env) :: starEach [] X.env := by rfl) (hpl : (backTo pos (starEach [] X.env)).any (·.1) = false := by rfl) :
    PS X (.Raise (some (.Call (.Name x p) [e] [] pos)) none pos2) (tRaise1 X.K C f te W) := by
  obtain ⟨fI, fd, p2, iC, tI, hb, F⟩ := T.ini
  exact ps_raise (pos := pos2) hc tk (pmk_oex (p := p) (pos := pos) T.T iC tI F (hr.mono h2) hb .nil pass0 hg T.g (pa_cons he pa_nil hs) hdb hs hpl)
end DR

namespace DR
open PySem PySem.Spec PyProof.Rows L2
/-! ### dict comprehensions whose keys are tuples -/
/-- the heap behind D[y] = z, y a tuple -/
def PutT (D : Addr) (y z : V) (Ha Hb : Hp) : Prop := ∃ (ks : List (List Key × V)) (u : List Key) (b : Addr), Ha D = some (.dT ks) ∧ y = .ref b ∧ Ha b = some (.tup (u.map kV)) ∧ ks.length < sizeLine ∧ Hb = upd Ha D (.dT (putK ks u z))
theorem run_putT {X : Cx} {pn : List (Addr × Obj)} {σ : L2.St} {Ha Hb : Hp} {s : Shared} {Er : Value → Shared → Prop} {D : Addr} {y z : V} {vy vz : Value} {Fi : Unit → Shared → Prop} (hu : X.A.units + 1 < cLine) (I : Inv X pn σ Ha s) (g : PutT D y z Ha Hb)
    (r1 : L2.RelV y vy) (r2 : L2.RelV z vz) (go : ∀ s', Inv X pn σ Hb s' → Fi () s') : wpAny (model X.prog X.w) X.A (dictSet D vy vz) Fi Er s := by
  obtain ⟨ks, u, b, hD, rfl, hb, few, rfl⟩ := g
  obtain rfl : vy = Value.ref b := r1
  obtain ⟨size, notM, xs, pr, isD⟩ := dt_of I.hok hD
  have lx : xs.length ≤ sizeLine := (Paired.length pr) ▸ size
  have few2 : (putK ks u z).length ≤ sizeLine := Nat.le_trans (length_putK ks u z) few
  refine wpAny_dictSet_heap (hsz := lx) (show (tupleKind (mixKind X.prog X.w)).room X.A from Nat.lt_of_succ_lt hu) (key_of I.hok hb) isD fun g2 isD2 same => go _ ?_
  obtain ⟨ob, en, epo, i1, i2, i3, i4, _, i6⟩ := isD2
  have stays : ∀ c us, Ha c = some (.tup us) → upd Ha D (.dT (putK ks u z)) c = some (.tup us) := fun c us ec => by
    rw [upd_ne (ne_of ec hD (fun e => nomatch e))]
    exact ec
  exact d_write I (by rw [hD]; trivial) same ⟨ob, i1⟩ ⟨few2, notM, _, (pr.put u hb r2).keeps fun c us ec => stays c us ec, ob, en, epo, i1, i2, i3, i4, i6⟩
/-- one turn of such a comprehension -/
def turnT (g : TG) (tt : TT) (tk tv : TE) (σ0 : L2.St) (vs : List Nat) (D : Addr) (Nx : Hp → Prop) (x : V) (Ha : Hp) : Prop :=
  g x (wipe σ0 vs) Ha fun σ1 Hb => wipe σ1 vs = wipe σ0 vs ∧ tt σ1 Hb fun b Hc => if b = true then tk σ1 Hc fun y Hd => tv σ1 Hd fun z He => ∃ Hf, PutT D y z He Hf ∧ Nx Hf else Nx Hc
/-- what is asked of such a comprehension -/
def tDt (wi : TI) (g : TG) (tt : TT) (tk tv : TE) (vs : List Nat) : TE := fun σ H Q => wi σ H fun J Ha => ∀ D, Ha D = none → ∃ W : Nat → Nat → Hp → Prop, (∃ n, W 0 n (upd Ha D (.dT []))) ∧
  ∀ j n Hb, W j n Hb → (J.stop j Hb ∧ Q (.ref D) Hb) ∨ (J.go j Hb ∧ ∃ Nx : Hp → Prop, (∀ Hc, Nx Hc → ∃ n', n' < n ∧ W (j + 1) n' Hc) ∧ ∀ x Hc, J.yld j Hb x Hc → turnT g tt tk tv σ vs D Nx x Hc)
section
variable {X : Cx}
theorem run_dt {pn : List (Addr × Obj)} {s : Shared} {σ : L2.St} {H : Hp} {Q : VK} {ke ve tg src : Expr} {conds : List Expr} {sc : Scope} {own : List (Str × Nat)} {po po' : Pos} {wi : TI} {g : TG} {tt : TT} {tk tv : TE} {use : Option (Value → Sem Unit)} {Fi : Value → Shared → Prop}
    (hu : X.A.units + 1 < cLine) (calm : X.calm = true) (nod : X.N.Nodup) (I : Inv X pn σ H s) (walks : PI X tg src wi) (blk : BlkOk X.N X.env.scope sc own)
    (rg : ∀ (s : Shared) (H : Hp) (C : Addr) (cl : List (Str × Addr)) (fp : List Addr), PG (X.blk s H sc (compEnvC sc cl C X.env) fp) tg g) (rt : ∀ (s : Shared) (H : Hp) (C : Addr) (cl : List (Str × Addr)) (fp : List Addr), PTs (X.blk s H sc (compEnvC sc cl C X.env) fp) conds tt)
    (rk : ∀ (s : Shared) (H : Hp) (C : Addr) (cl : List (Str × Addr)) (fp : List Addr), PE (X.blk s H sc (compEnvC sc cl C X.env) fp) ke tk) (rv : ∀ (s : Shared) (H : Hp) (C : Addr) (cl : List (Str × Addr)) (fp : List Addr), PE (X.blk s H sc (compEnvC sc cl C X.env) fp) ve tv)
    (fold : ∀ x, foldedSetIterable src X.env x = pure x) (asks : tDt wi g tt tk tv (own.map (·.2)) σ H Q)
    (last : ∀ D C s' m H', Inv X pn σ H' s' → Q (.ref D) H' → s'.heap.Ns C m → FpOk X pn H' C → compPost (model X.prog X.w) X.A X.xe use Fi (.ref D) C (.ok .next) s') :
    wpAny (model X.prog X.w) X.A (comprehension (.DictComp ke ve [⟨tg, src, conds, 0⟩] sc po) sc X.env po' newDict false (eval src X.env) use) Fi X.xe s := by
  have freeOk : ∀ y ∈ sc.names, y.2 = .free → ∃ c, X.env.cells.lookup y.1 = some c := fun y hy e => (blk.free y hy e).elim (fun k => I.ok.has _ (.inl k)) fun k => I.ok.has _ (.inr k)
  refine wpAny_comprehension_free (use := use) rfl fold (closure_ok freeOk) blk.kind (fun y hy e => by rw [blk.uniq y hy, e]) (thn (walks.run pn s σ H _ I asks) fun _ sa ha => thn ha fun _ sb hb => ?_)
  obtain ⟨it, fp, tn, J, Hb, rfl, Ib, T, stb, fpb, q⟩ := hb
  refine wpAny_newObj_type (newEnv_comp ?_)
  -- the new dict
  have freeD : Hb sb.heap.objs.size = none := Ib.hok.fresh (Nat.le_refl _)
  obtain ⟨W, ⟨n0, w0⟩, turns⟩ := q _ freeD
  have Ic : Inv X pn σ (upd Hb sb.heap.objs.size (.dT [])) { sb with heap := sb.heap.push { cls := .type "dict", data := .dict #[] } } := Ib.laid (t' := sb.toks) (fun _ _ e => Heap.get?_push_of_some _ e) (Nat.le_refl _) (dt_empty sb.heap Ib.big)
  generalize eD : sb.heap.objs.size = D at freeD w0 turns Ic ⊢
  generalize ec : ({ sb with heap := sb.heap.push { cls := .type "dict", data := .dict #[] } } : Shared) = c at Ic
  have hc : c.heap = sb.heap.push { cls := .type "dict", data := .dict #[] } := by rw [← ec]
  have below : ∀ b ∈ fp, b < D := fun b hb => by
    obtain ⟨o, e, _⟩ := T.obj _ _ stb b hb
    rw [← eD]
    exact Heap.lt_size e
  generalize eH : upd Hb D (.dT []) = Hc at Ic w0
  have fpc : ∀ b ∈ fp, FpOk X pn Hc b ∧ b < c.heap.objs.size := fun b hb => by
    have lt := below b hb
    refine ⟨⟨?_, (fpb b hb).2⟩, ?_⟩
    · rw [← eH, upd_ne (Nat.ne_of_lt lt)]
      exact (fpb b hb).1
    · rw [hc, Heap.size_push, eD]
      exact Nat.lt_succ_of_lt lt
  have stc : tn 0 c.heap := T.keep _ _ _ stb fun b _ o e => by
    rw [hc]
    exact Heap.get?_push_of_some _ e
  have Id := block_start Ic blk nod fpc
  -- the block
  generalize eE : compEnvC sc (cellsFrom (c.heap.objs.size + 1) sc.names (cloFrom X.env.cells sc.names [])) c.heap.objs.size X.env = en at Id
  have pg : PG (X.blk c Hc sc en fp) tg g := eE ▸ rg c Hc _ _ fp
  have pt : PTs (X.blk c Hc sc en fp) conds tt := eE ▸ rt c Hc _ _ fp
  have pk : PE (X.blk c Hc sc en fp) ke tk := eE ▸ rk c Hc _ _ fp
  have pv' : PE (X.blk c Hc sc en fp) ve tv := eE ▸ rv c Hc _ _ fp
  have locs : en.locals = c.heap.objs.size := by rw [← eE]; rfl
  have quiet : ∀ b ∈ fp, Hc b = none := fun b hb => (fpc b hb).1.1
  generalize ed : ({ c with heap := pushCells (c.heap.push { cls := .type "dict", data := .dict #[] }) sc.names } : Shared) = d at Id
  have std : tn 0 d.heap := T.keep _ _ _ stc fun b _ o e => by
    rw [← ed]
    exact pushCells_keeps _ _ _ _ (Heap.get?_push_of_some _ e)
  have fpIn : ∀ {σ' : L2.St} {H' : Hp} {s' : Shared}, Inv (X.blk c Hc sc en fp) [] σ' H' s' → (∀ b ∈ fp, H' b = none) → ∀ b ∈ fp, FpOk (X.blk c Hc sc en fp) [] H' b := fun I' q b hb =>
    ⟨q b hb, (I'.ok.exf b hb).1, I'.ok.exfs b hb, .inl hb, fun x y e => (I'.ok.exf b hb).2 x y e, fun p hp => absurd (show p ∈ ([] : List (Addr × Obj)) ++ [] from hp) (by simp)⟩
  have goes : codeAny (model X.prog X.w) X.A (.compLoop (.DictComp ke ve [⟨tg, src, conds, 0⟩] sc po) 0 (.ref it) (.ref D) en) (compPost (model X.prog X.w) X.A X.xe use Fi (.ref D) c.heap.objs.size) d := by
    refine compLoop_anyD (fun n s' => ∃ j H', Inv (X.blk c Hc sc en fp) [] (wipe σ (own.map (·.2))) H' s' ∧ tn j s'.heap ∧ (∀ b ∈ fp, H' b = none) ∧ W j n H') (fun n s5 hs5 => ?_) n0 ⟨0, Hc, Id, std, quiet, w0⟩
    obtain ⟨j, H5, I5, st5, n5, w5⟩ := hs5
    rcases turns j n H5 w5 with ⟨over, qq⟩ | ⟨on, Nx, next, step⟩
    · refine thnF (T.done (X.blk c Hc sc en fp) rfl rfl rfl calm j [] s5 _ H5 (fun _ _ => False) I5 (fpIn I5 n5) st5 over) fun r s6 h6 => ?_
      obtain ⟨rfl, I6⟩ := h6
      have outer : Inv X pn σ H5 s6 := Ic.call' (ch := fp) I6.os I6.base I6.hok I6.bare fun b hb => by
        obtain ⟨⟨k0, k1, k2, k3, k4, k5⟩, _⟩ := fpc b hb
        exact ⟨k3, k1, k4, k5⟩
      have nL : H5 c.heap.objs.size = none := by
        rw [← locs]
        exact I6.free
      obtain ⟨m, hm, _⟩ := I6.loc
      have hm' : s6.heap.Ns c.heap.objs.size m := by
        rw [← locs]
        exact hm
      exact last D _ s6 m H5 outer qq hm' (Ic.fpOk (Nat.le_refl _) nL)
    · refine thnF (T.item (X.blk c Hc sc en fp) rfl rfl rfl calm j [] s5 _ H5 (fun _ _ => False) I5 (fpIn I5 n5) st5 on) fun r s6 h6 => ?_
      obtain ⟨u, rfl, h6⟩ := h6
      refine thnF h6 fun _ s7 h7 => ?_
      obtain ⟨x, H7, I7, r7, y7, st7, n7⟩ := h7
      refine thnF (pg.run _ s7 _ H7 x u _ (I7.pinned (fpIn I7 n7) (T.obj _ _ st7)) r7 (step x H7 y7)) fun _ s8 h8 => ?_
      obtain ⟨σ8, H8, I8, wip, q8⟩ := h8
      have over : ∀ {s' : Shared} {H' : Hp}, Inv (X.blk c Hc sc en fp) ([] ++ pinsAt fp s7.heap) σ8 H' s' → Nx H' → ∃ m, m < n ∧ ∃ j H', Inv (X.blk c Hc sc en fp) [] (wipe σ (own.map (·.2))) H' s' ∧ tn j s'.heap ∧ (∀ b ∈ fp, H' b = none) ∧ W j m H' := by
        intro s' H' I' nx
        obtain ⟨m', lt, w'⟩ := next H' nx
        have pinned : ∀ b ∈ fp, ∀ o, s7.heap.get? b = some o → s'.heap.get? b = some o ∧ H' b = none := fun b hb o e => by
          have z := I'.pin (b, o) (List.mem_append_right _ (List.mem_append_right _ (mem_pinsAt hb e)))
          exact ⟨z.1, z.2.1⟩
        refine ⟨m', lt, j + 1, H', (I'.unpinned (pins := [])).weak ?_ ?_, T.keep _ _ _ st7 fun b hb o e => (pinned b hb o e).1, fun b hb => ?_, w'⟩
        · rw [← wip, wipe_length]
        · intro i v e
          rw [← wip] at e
          exact (wipe_some e).1
        · obtain ⟨o, e, _⟩ := T.obj _ _ st7 b hb
          exact (pinned b hb o e).2
      refine thnF (pt.run _ s8 σ8 H8 _ I8 q8) fun b s9 h9 => ?_
      obtain ⟨H9, I9, q9⟩ := h9
      cases b with
      | false =>
        rw [if_neg Bool.false_ne_true] at q9 ⊢
        exact over I9 q9
      | true =>
        rw [if_pos rfl] at q9 ⊢
        refine thnF (pk.run _ s9 σ8 H9 _ I9 q9) fun _ s10 h10 => ?_
        obtain ⟨yk, H10, I10, r10, q10⟩ := h10
        refine thnF (pv'.run _ s10 σ8 H10 _ I10 q10) fun _ s11 h11 => ?_
        obtain ⟨yv, H11, I11, r11, Hf, put, nx⟩ := h11
        exact run_putT (X := X.blk c Hc sc en fp) hu I11 put r10 r11 fun s12 I12 => over I12 nx
  subst eE
  exact codeAny_compStart_dict goes (T.self X.A 0 _ _ _ std goes)
/-- such a comprehension as a value -/
theorem pe_dt {ke ve tg src : Expr} {conds : List Expr} {sc : Scope} {own : List (Str × Nat)} {po : Pos} {wi : TI} {g : TG} {tt : TT} {tk tv : TE} (hu : X.A.units + 1 < cLine) (calm : X.calm = true) (nod : X.N.Nodup) (walks : PI X tg src wi) (blk : BlkOk X.N X.env.scope sc own)
    (rg : ∀ (s : Shared) (H : Hp) (C : Addr) (cl : List (Str × Addr)) (fp : List Addr), PG (X.blk s H sc (compEnvC sc cl C X.env) fp) tg g) (rt : ∀ (s : Shared) (H : Hp) (C : Addr) (cl : List (Str × Addr)) (fp : List Addr), PTs (X.blk s H sc (compEnvC sc cl C X.env) fp) conds tt)
    (rk : ∀ (s : Shared) (H : Hp) (C : Addr) (cl : List (Str × Addr)) (fp : List Addr), PE (X.blk s H sc (compEnvC sc cl C X.env) fp) ke tk) (rv : ∀ (s : Shared) (H : Hp) (C : Addr) (cl : List (Str × Addr)) (fp : List Addr), PE (X.blk s H sc (compEnvC sc cl C X.env) fp) ve tv)
    (fold : ∀ x, foldedSetIterable src X.env x = pure x := by intro _; rfl) : PE X (.DictComp ke ve [⟨tg, src, conds, 0⟩] sc po) (tDt wi g tt tk tv (own.map (·.2))) := by
  constructor
  intro pn s σ H Q I asks
  rw [arm_eval_DictComp]
  refine run_dt hu calm nod I walks blk rg rt rk rv fold asks fun D C s' m H' I' q hm f => ⟨m, hm, fun g2 sb => ?_⟩
  obtain ⟨k0, k1, k2, k3, k4, k5⟩ := f
  exact ⟨.ref D, H', I'.turned (t' := s'.toks) (fun b o hb e => (sb.2 b hb).trans e) k0 k1 k3 k4 k5, rfl, q⟩
end
/-- over any walk -/
theorem dt_it {J : It} {n : Nat} {G : Hp → Prop} {Y : Nat → Hp → V → Hp → Prop} (w : Walk J n G Y) {g : TG} {tt : TT} {tk tv : TE} {vs : List Nat} {σ : L2.St} {Ha : Hp} {D : Addr} {Qd : Hp → Prop} (Pv : Nat → Hp → Prop) (zero : Pv 0 (upd Ha D (.dT []))) (stand : ∀ i H, i ≤ n → Pv i H → G H)
    (turn : ∀ i x H H', i < n → Pv i H → Y i H x H' → turnT g tt tk tv σ vs D (Pv (i + 1)) x H') (last : ∀ H, Pv n H → Qd H) :
    ∃ W : Nat → Nat → Hp → Prop, (∃ m, W 0 m (upd Ha D (.dT []))) ∧ ∀ j m Hb, W j m Hb → (J.stop j Hb ∧ Qd Hb) ∨ (J.go j Hb ∧ ∃ Nx : Hp → Prop, (∀ Hc, Nx Hc → ∃ n', n' < m ∧ W (j + 1) n' Hc) ∧ ∀ x Hc, J.yld j Hb x Hc → turnT g tt tk tv σ vs D Nx x Hc) := by
  refine ⟨fun j m Hb => m = n - j ∧ j ≤ n ∧ Pv j Hb, ⟨n, rfl, Nat.zero_le _, zero⟩, ?_⟩
  rintro j m Hb ⟨rfl, le, p⟩
  have q := stand j Hb le p
  rcases Nat.lt_or_eq_of_le le with lt | rfl
  · exact .inr ⟨w.goes j Hb lt q, Pv (j + 1), fun Hc p' => ⟨n - (j + 1), by omega, rfl, lt, p'⟩, fun x Hc y => turn j x Hb Hc lt p (w.yields j Hb x Hc lt q y)⟩
  · exact .inl ⟨w.stops Hb q, last Hb p⟩
end DR

namespace DR
open PySem PySem.Spec PyProof.Rows L2
/-- y = {k: v for ..}, the keys tuples, y a local name -/
theorem ps_setDt {X : Cx} {i : Nat} {y : Str} {py : Pos} {ke ve tg src : Expr} {conds : List Expr} {sc : Scope} {own : List (Str × Nat)} {po spo : Pos} {wi : TI} {g : TG} {tt : TT} {tk tv : TE} (hu : X.A.units + 1 < cLine) (calm : X.calm = true) (nod : X.N.Nodup) (slot : X.N[i]? = some y) (isLoc : X.env.scope.names.lookup y = some .local)
    (sw : swapsWith (.DictComp ke ve [⟨tg, src, conds, 0⟩] sc po) (some (.Name y py)) spo.line X.env = pure true) (walks : PI X tg src wi) (blk : BlkOk X.N X.env.scope sc own)
    (rg : ∀ (s : Shared) (H : Hp) (C : Addr) (cl : List (Str × Addr)) (fp : List Addr), PG (X.blk s H sc (compEnvC sc cl C X.env) fp) tg g) (rt : ∀ (s : Shared) (H : Hp) (C : Addr) (cl : List (Str × Addr)) (fp : List Addr), PTs (X.blk s H sc (compEnvC sc cl C X.env) fp) conds tt)
    (rk : ∀ (s : Shared) (H : Hp) (C : Addr) (cl : List (Str × Addr)) (fp : List Addr), PE (X.blk s H sc (compEnvC sc cl C X.env) fp) ke tk) (rv : ∀ (s : Shared) (H : Hp) (C : Addr) (cl : List (Str × Addr)) (fp : List Addr), PE (X.blk s H sc (compEnvC sc cl C X.env) fp) ve tv)
    (fold : ∀ x, foldedSetIterable src X.env x = pure x := by intro _; rfl) : PS X (.Assign [.Name y py] (.DictComp ke ve [⟨tg, src, conds, 0⟩] sc po) spo) (tAsg (tDt wi g tt tk tv (own.map (·.2))) (gName i)) := by
  constructor
  intro pn s σ H D I want
  rw [exec_Assign_Name_used _ _ _ _ sw]
  refine wpAny_bind (wpAny_standAt (wpAny_bind ?_))
  show wpAny _ X.A (do let _ ← comprehension (.DictComp ke ve [⟨tg, src, conds, 0⟩] sc po) sc X.env (firstIterPos [⟨tg, src, conds, 0⟩] po) newDict false (eval src X.env) (some (assign (.Name y py) X.env))) _ _ s
  have want' : tDt wi g tt tk tv (own.map (·.2)) σ H (fun x H1 => gName i x σ H1 D.nx) := want
  refine wpAny_bind (thn (run_dt (Fi := fun _ s' => SP X pn D .next s') hu calm nod I walks blk rg rt rk rv fold want' fun L C s' m H' I' q hn ff => ?_) fun _ s' hq => wpAny_pure (wpAny_pure hq))
  show wpAny _ _ (assign (.Name y py) X.env (.ref L)) _ _ _
  refine wpAny_assign_Name (store_ok2 (v := V.ref L) I' nod slot (.inl isLoc) rfl (fun s2 I2 there => ?_) (.inr isLoc))
  obtain ⟨a, sb, ha⟩ := there
  have ⟨u0, u1, u2, u3, u4, u5⟩ := ff
  have apart : C ≠ a := by
    rcases ha with z | z
    · exact fun e => u1 (e.trans z)
    · exact fun e => u4 y a z e.symm
  exact ⟨m, hn.sameBut sb apart, fun h3 sb3 => ⟨_, H', I2.turned (t' := s2.toks) (fun b o hb e => (sb3.2 b hb).trans e) u0 u1 u3 u4 u5, q⟩⟩
theorem sw_dt {ke ve : Expr} {gs : List Comprehension} {sc : Scope} {po py : Pos} {y : Str} {l : Nat} {env : Env} (isF : env.scope.kind = .function) (isL : env.scope.names.lookup y = some .local) (line : (py.line == po.line) = true)
    (not : (sc.names.any fun (n, k) => n == y && (k == .local || k == .cell)) = false) : swapsWith (.DictComp ke ve gs sc po) (some (.Name y py)) l env = pure true := by
  have k1 : env.kindOf y = some .local := isL
  have k2 : env.blockKind = .function := by
    unfold Env.blockKind
    rw [isF]
    rfl
  unfold swapsWith
  simp only [k2, k1, not, Expr.pos, line]
  rfl
end DR

namespace DR
open PySem PySem.Spec PyProof.Rows L2
/-! ### products of great numbers -/
def Sz (i : Int) : Prop := i.natAbs < 2 ^ 200
theorem sz_mul {i j : Int} (a : Sz i) (b : Sz j) : IntMulOk i j := .of_le (intBits_le_iff.mpr a) (intBits_le_iff.mpr b) (by decide)
theorem op_mulS {X : Cx} : OpR X (binaryOp .Mult) (rI (fun i j => Sz i ∧ Sz j) fun i j => .int (i * j)) := opI fun _ _ _ _ _ _ _ hc q => mul_int q (sz_mul hc.1 hc.2)
/-! ### sums of the program -/
def plusA (l m : Mul) : Mul := m.foldl (fun a q => addP a q.1 q.2) l
theorem vKv_len (l : Mul) : (vKv l).length = l.length := List.length_map ..
theorem plusA_len : ∀ (m l : Mul), (plusA l m).length ≤ l.length + m.length
  | [], l => Nat.le_refl _
  | q :: m, l => by
    show (plusA (addP l q.1 q.2) m).length ≤ _
    refine Nat.le_trans (plusA_len m _) ?_
    have := addP_len l q.1 q.2
    rw [List.length_cons]
    omega
theorem plusA_nm : ∀ {m l : Mul}, (∀ u ∈ m.map (·.1), NmU u) → (∀ u ∈ l.map (·.1), NmU u) → ∀ u ∈ (plusA l m).map (·.1), NmU u
  | [], l, _, h => h
  | q :: m, l, hm, h => by
    show ∀ u ∈ (plusA (addP l q.1 q.2) m).map (·.1), NmU u
    exact plusA_nm (fun u hu => hm u (List.mem_cons_of_mem _ hu)) (addP_keys h (hm q.1 (List.mem_cons_self ..)))
theorem take_not {α : Type} {l : List α} {i : Nat} {a : α} (nd : l.Nodup) (h : l[i]? = some a) : a ∉ l.take i := by
  intro hm
  obtain ⟨j, hj, ej⟩ := List.mem_iff_getElem.mp hm
  have hj2 : j < i := by
    rw [List.length_take] at hj
    omega
  have hi : i < l.length := (List.getElem?_eq_some_iff.mp h).1
  have e1 : l[i] = a := (List.getElem?_eq_some_iff.mp h).2
  have e2 : l[j] = a := by rw [← ej, List.getElem_take]
  exact List.pairwise_iff_getElem.mp nd j i (by omega) hi hj2 (e2.trans e1.symm)
theorem part_get {H : Hp} {xs : List V} {ps : Mul} (h : PySem.W.EachIs (PartT H) xs ps) {i : Nat} {x : V} (hx : xs[i]? = some x) : ∃ u m c e, ps[i]? = some (u, m) ∧ x = .ref c ∧ H c = some (.tup [.ref e, .int m]) ∧ H e = some (.tup (u.map kV)) := by
  obtain ⟨⟨u, m⟩, h1, c, e, h2, h3, h4⟩ := eachs_get h hx
  exact ⟨u, m, c, e, h1, h2, h3, h4⟩
theorem put_new {l : Mul} {u : List Key} (m : Int) (h : u ∉ l.map (·.1)) : putI l u m = l ++ [(u, m)] := putI_out m h
theorem sumT_not_non {H : Hp} {v : V} {n : Int} {ps : Mul} (h : SumT H v n ps) : decide (v = .non) = false := by
  obtain ⟨a, b, xs, rfl, _⟩ := h
  rfl
def scal (k : Int) (l : Mul) : Mul := l.map fun q => (q.1, k * q.2)
theorem scal_len (k : Int) (l : Mul) : (scal k l).length = l.length := List.length_map ..
theorem scal_keys (k : Int) (l : Mul) : (scal k l).map (·.1) = l.map (·.1) := by
  unfold scal
  rw [List.map_map]
  rfl
theorem scal_nm {k : Int} {l : Mul} (h : ∀ u ∈ l.map (·.1), NmU u) : ∀ u ∈ (scal k l).map (·.1), NmU u := by
  rw [scal_keys]
  exact h
end DR

namespace DR
open PySem PySem.Spec PyProof.Rows L2
/-! ### the law's draws -/
abbrev sCell : Stmt := topS 35
abbrev sPool : Stmt := topS 36
abbrev sTake : Stmt := topS 37
abbrev sOne : Stmt := topS 38
theorem scCell : FnScope ["script", "k"] ["script", "k"] (defScope sCell) := ⟨rfl, rfl, rfl, by decide +kernel, rfl, by decide +kernel, by decide +kernel⟩
theorem scPool : FnScope ["cell", "folded"] ["cell"] (defScope sPool) := ⟨rfl, rfl, rfl, by decide +kernel, rfl, by decide +kernel, by decide +kernel⟩
theorem scTake : FnScope ["pool", "many", "draw", "mixed"] ["pool", "many"] (defScope sTake) := ⟨rfl, rfl, rfl, by decide +kernel, rfl, by decide +kernel, by decide +kernel⟩
theorem scOne : FnScope ["pool", "things"] ["pool", "things"] (defScope sOne) := ⟨rfl, rfl, rfl, by decide +kernel, rfl, by decide +kernel, by decide +kernel⟩
/-- some int comes back -/
def spCell (K : PySem.W.Frag) : Sp := fun vs H Q _ => ∃ (l : Addr) (ns : List Int) (j : Nat), vs = [.ref l, .int (j : Int)] ∧ SqL K H l (ns.map V.int) ∧ ∀ n : Int, Q (.int n) H
section
variable {P : Program} {w : World} {K : PySem.W.Frag} {mg : Str → Option Value} {base : Heap}
theorem ok_cell {f : Addr} {fd : FuncData} (F : Fun K "_law_cell" "_law_cell" sCell f fd) (mL : mg "len" = none) : FnOk P w K mg base CX0 1 f fd ["script", "k"] (spCell K) := by
  refine F.ok scCell (fun vs H Q E h => ?_) (fun cdv A outer s H vs Q E hr h => ?_)
  · obtain ⟨l, ns, j, rfl, _⟩ := h
    rfl
  · obtain ⟨l, ns, j, rfl, hs, q⟩ := h
    refine ⟨_, pss_cons (ps_if (pt_cmpR op_lt (pv 1) (pe_callB call_len_seq (by rfl) mL PySem.boot_len (pa_cons (pv 0) pa_nil)) (nomark _))
        (pss_one (ps_ret (pe_ix ix_list (pv 0) (pv 1) (fun _ _ => rfl)))) pss_nil) (pss_one (ps_ret pe_int)), ?_⟩
    refine ⟨_, rfl, _, rfl, l, _, rfl, .inl hs, _, _, rfl, rfl, _, rfl, ?_⟩
    refine ite2 (fun hd => ?_) (fun hd => ?_)
    · have hj : (j : Int) < ((ns.map V.int).length : Int) := of_decide_eq_true hd
      rw [List.length_map] at hj
      have hj' : j < ns.length := by omega
      refine ⟨_, rfl, _, rfl, l, _, _, .int ns[j], rfl, rfl, hs, ?_, q _⟩
      unfold atI ixN
      rw [List.length_map, if_pos (by omega), if_pos (by omega)]
      show (ns.map V.int)[((j : Int)).toNat]? = _
      rw [Int.toNat_natCast, List.getElem?_map, List.getElem?_eq_getElem hj']
      rfl
    · exact q 0
end

/-- a pool of draws at p -/
structure Pool (H : Hp) (p : Addr) (c : Nat) : Prop where
  ex : ∃ a b z : Int, H p = some (.lst [.int a, .int b, .int z]) ∧ 0 ≤ a ∧ 0 ≤ b ∧ b < 1000000007 ∧ 0 ≤ z ∧ z ≤ (c : Int)
def spPool : Sp := fun vs H Q _ => ∃ n : Int, vs = [.int n] ∧ ∀ p o, H p = none → Pool (upd H p o) p 0 → Q (.ref p) (upd H p o)
def spTake : Sp := fun vs H Q _ => ∃ (p : Addr) (c : Nat) (m : Int), vs = [.ref p, .int m] ∧ Pool H p c ∧ c < 100000 ∧ 0 < m ∧ m < 1000000 ∧
  ∀ (r : Int) (o : HO), 0 ≤ r → r < m → Pool (upd H p o) p (c + 1) → Q (.int r) (upd H p o)
def spOne (K : PySem.W.Frag) : Sp := fun vs H Q _ => ∃ (p t : Addr) (c : Nat) (xs : List V), vs = [.ref p, .ref t] ∧ Pool H p c ∧ c < 100000 ∧ (SqL K H t xs ∨ SqT K H t xs) ∧ t ≠ p ∧ 0 < xs.length ∧ xs.length < 1000000 ∧
  ∀ (v : V) (o : HO), v ∈ xs → Pool (upd H p o) p (c + 1) → Q v (upd H p o)
theorem at3 {a b c : V} (i : Nat) (v : V) (h : [a, b, c][i]? = some v) : atI [a, b, c] (i : Int) = some v := by
  have hi : i < 3 := (List.getElem?_eq_some_iff.mp h).1
  unfold atI ixN
  rw [if_pos (by omega), if_pos (by show (i : Int) < ((3 : Nat) : Int); omega)]
  show ([a, b, c] : List V)[((i : Int)).toNat]? = _
  rw [Int.toNat_natCast]
  exact h
theorem pw_bound {b z : Int} (h0 : 0 ≤ b) (h1 : b < 1000000007) (h2 : 0 ≤ z) (h3 : z ≤ 100001) : CPow (b + 7919 * z + 104729) 5 := ⟨by decide, by decide, by omega⟩
section
variable {P : Program} {w : World} {K : PySem.W.Frag} {mg : Str → Option Value} {base : Heap}
theorem ok_pool {f : Addr} {fd : FuncData} (F : Fun K "_law_pool" "_law_pool" sPool f fd) (T : Bi mg) : FnOk P w K mg base CX0 1 f fd ["cell"] spPool := by
  refine F.ok scPool (fun vs H Q E h => ?_) (fun cdv A outer s H vs Q E hr h => ?_)
  · obtain ⟨n, rfl, _⟩ := h
    rfl
  · obtain ⟨n, rfl, q⟩ := h
    refine ⟨_, (pss_cons (ps_set (i := 1) scPool.nd rfl (.inl rfl) (pe_op op_mul pe_int (pv 0)))
      (pss_cons (ps_if (pt_cmpR op_lt (pv 0) pe_int (nomark _)) (pss_one (ps_set (i := 1) scPool.nd rfl (.inl rfl) (pe_op op_sub (pe_op op_sub pe_int (pe_op op_mul pe_int (pv 0))) pe_int))) pss_nil)
      (pss_cons (ps_if (pt_cmpR op_ge (pv 1) (pe_op op_pow pe_int pe_int) (nomark _)) (pss_one (ps_ret (pe_lst (pa_cons (pv 1) (pa_cons (pe_op op_mod (pe_callTy call_int1 (by rfl) T.int (by decide +kernel) (pa_cons (pv 1) pa_nil)) pe_int) (pa_cons pe_int pa_nil)))))) pss_nil)
      (pss_one (ps_ret (pe_lst (pa_cons pe_int (pa_cons (pe_op op_mod (pe_callTy call_int1 (by rfl) T.int (by decide +kernel) (pa_cons (pv 1) pa_nil)) pe_int) (pa_cons pe_int pa_nil))))))))), ?_⟩
    refine ⟨_, rfl, _, _, rfl, rfl, .inl ⟨by decide, by decide⟩, ?_⟩
    have fin : ∀ z : Int, (tSeq (tIfS (tTest (tOp (rI0 fun i j => .bl (decide (j ≤ i))) (tVar 1) (tOp (rI CPow fun i j => .int (i ^ j.toNat)) (tC (.int 10)) (tC (.int 18)))))
        (tRet (tLst (tCons (tVar 1) (tCons (tOp (rI (fun _ j => 0 < j) fun i j => .int (i % j)) (tCB (fun xs H Q => (∃ i, xs = [.int i] ∧ Q (.int i) H) ∨ ∃ k, xs = [.bl k] ∧ Q (.int (if k then 1 else 0)) H) (tCons (tVar 1) tNil)) (tC (.int 1000000007))) (tCons (tC (.int 0)) tNil))))) tNext)
        (tRet (tLst (tCons (tC (.int 0)) (tCons (tOp (rI (fun _ j => 0 < j) fun i j => .int (i % j)) (tCB (fun xs H Q => (∃ i, xs = [.int i] ∧ Q (.int i) H) ∨ ∃ k, xs = [.bl k] ∧ Q (.int (if k then 1 else 0)) H) (tCons (tVar 1) tNil)) (tC (.int 1000000007))) (tCons (tC (.int 0)) tNil))))))
        { nx := fun _ H' => Q .non H', rt := Q } [some (.int n), some (.int z)] H := by
      intro z
      refine ⟨_, rfl, _, _, rfl, rfl, ⟨by decide, by decide, by decide⟩, _, _, rfl, rfl, _, rfl, ?_⟩
      refine ite2 (fun c => ?_) (fun c => ?_)
      · have c' : (10 : Int) ^ (18 : Int).toNat ≤ z := of_decide_eq_true c
        refine ⟨_, rfl, _, rfl, .inl ⟨_, rfl, _, _, rfl, rfl, (by show (0 : Int) < 1000000007; decide), (by show 3 ≤ sizeLine; decide), fun p hp => ?_⟩⟩
        refine q p _ hp ⟨_, _, _, upd_same, Int.le_trans (by decide) c', Int.emod_nonneg _ (by decide), Int.emod_lt_of_pos _ (by decide), by decide, by decide⟩
      · refine ⟨_, rfl, .inl ⟨_, rfl, _, _, rfl, rfl, (by show (0 : Int) < 1000000007; decide), (by show 3 ≤ sizeLine; decide), fun p hp => ?_⟩⟩
        refine q p _ hp ⟨_, _, _, upd_same, by decide, Int.emod_nonneg _ (by decide), Int.emod_lt_of_pos _ (by decide), by decide, by decide⟩
    refine ⟨_, rfl, _, _, rfl, rfl, _, rfl, ?_⟩
    refine ite2 (fun c => ?_) (fun c => fin _)
    refine ⟨_, rfl, _, _, rfl, rfl, .inl ⟨by decide, by decide⟩, _, _, rfl, rfl, _, _, rfl, rfl, fin _⟩
theorem ok_take {f : Addr} {fd : FuncData} (F : Fun K "_law_take" "_law_take" sTake f fd) (T : Bi mg) : FnOk P w K mg base CX0 1 f fd ["pool", "many"] spTake := by
  refine F.ok scTake (fun vs H Q E h => ?_) (fun cdv A outer s H vs Q E hr h => ?_)
  · obtain ⟨p, c, m, rfl, _⟩ := h
    rfl
  · obtain ⟨p, c, m, rfl, ⟨a, b, z, hp, ha, hb, hb2, hz, hz2⟩, hc, hm, hm2, q⟩ := h
    refine ⟨_, (pss_cons (ps_if (pt_cmpR op_gt (pe_ix ix_list (pv 0) pe_int (fun _ _ => rfl)) pe_int (nomark _)) (pss_cons (ps_set (i := 2) scTake.nd rfl (.inl rfl) (pe_op op_mod (pe_callTy call_int1 (by rfl) T.int (by decide +kernel) (pa_cons (pe_ix ix_list (pv 0) pe_int (fun _ _ => rfl)) pa_nil)) (pv 1)))
      (pss_cons (ps_asg (pe_op op_fdiv (pe_ix ix_list (pv 0) pe_int (fun _ _ => rfl)) (pv 1)) (pg_sub (pv 0) pe_int set_list))
      (pss_one (ps_ret (pv 2))))) pss_nil)
      (pss_cons (ps_asg (pe_op op_add (pe_ix ix_list (pv 0) pe_int (fun _ _ => rfl)) pe_int) (pg_sub (pv 0) pe_int set_list))
      (pss_cons (ps_set (i := 3) scTake.nd rfl (.inl rfl) (pe_op op_mod (pe_callTy call_int1 (by rfl) T.int (by decide +kernel) (pa_cons (pe_op op_pow (pe_op op_add (pe_op op_add (pe_ix ix_list (pv 0) pe_int (fun _ _ => rfl)) (pe_op op_mul pe_int (pe_ix ix_list (pv 0) pe_int (fun _ _ => rfl)))) pe_int) pe_int) pa_nil)) pe_int))
      (pss_one (ps_ret (pe_op op_mod (pe_op op_mod (pe_callTy call_int1 (by rfl) T.int (by decide +kernel) (pa_cons (pe_op op_mul (pe_op op_add (pv 3) (pe_ix ix_list (pv 0) pe_int (fun _ _ => rfl))) pe_int) pa_nil)) pe_int) (pv 1))))))), ?_⟩
    have s0 : SqL K H p [.int a, .int b, .int z] := SqL.of hp
    refine ⟨_, rfl, p, _, _, _, rfl, rfl, s0, at3 0 _ rfl, _, _, rfl, rfl, _, rfl, ?_⟩
    refine ite2 (fun cc => ?_) (fun cc => ?_)
    · have h0 : 0 < a := of_decide_eq_true cc
      refine ⟨_, rfl, p, _, _, _, rfl, rfl, s0, at3 0 _ rfl, .inl ⟨_, rfl, _, rfl, _, _, rfl, rfl, hm, ?_⟩⟩
      refine ⟨_, rfl, p, _, _, _, rfl, rfl, s0, at3 0 _ rfl, _, rfl, _, _, rfl, rfl, ⟨hm, by omega⟩, ?_⟩
      refine ⟨_, rfl, p, _, _, 0, rfl, rfl, hp, rfl, _, rfl, ?_⟩
      exact q _ _ (Int.emod_nonneg _ (by omega)) (Int.emod_lt_of_pos _ hm) ⟨_, _, _, upd_same, Int.ediv_nonneg ha (by omega), hb, hb2, hz, by omega⟩
    · refine ⟨_, rfl, p, _, _, _, rfl, rfl, s0, at3 2 _ rfl, _, _, rfl, rfl, _, rfl, p, _, _, 2, rfl, rfl, hp, rfl, ?_⟩
      have s1 : SqL K (upd H p (.lst [.int a, .int b, .int (z + 1)])) p [.int a, .int b, .int (z + 1)] := SqL.of upd_same
      refine ⟨_, rfl, p, _, _, _, rfl, rfl, s1, at3 1 _ rfl, _, rfl, p, _, _, _, rfl, rfl, s1, at3 2 _ rfl, _, _, rfl, rfl, .inl ⟨by decide, by decide⟩, _, _, rfl, rfl, _, _, rfl, rfl, _, _, rfl, rfl, pw_bound hb hb2 (by omega) (by omega), .inl ⟨_, rfl, _, _, rfl, rfl, (by show (0 : Int) < 2147483647; decide), ?_⟩⟩
      refine ⟨_, rfl, _, rfl, p, _, _, _, rfl, rfl, s1, at3 2 _ rfl, _, _, rfl, rfl, _, _, rfl, rfl, .inr ⟨by decide, by decide⟩, .inl ⟨_, rfl, _, _, rfl, rfl, (by show (0 : Int) < 2147483629; decide), _, rfl, _, _, rfl, rfl, hm, ?_⟩⟩
      exact q _ _ (Int.emod_nonneg _ (by omega)) (Int.emod_lt_of_pos _ hm) ⟨_, _, _, upd_same, ha, hb, hb2, by omega, by omega⟩
theorem at_mem {xs : List V} {r : Int} (h0 : 0 ≤ r) (h1 : r < (xs.length : Int)) : ∃ v, atI xs r = some v ∧ v ∈ xs := by
  have h2 : r.toNat < xs.length := by omega
  refine ⟨xs[r.toNat], ?_, List.getElem_mem _⟩
  unfold atI ixN
  rw [if_pos h0, if_pos h1]
  exact List.getElem?_eq_getElem h2
theorem ok_one {f : Addr} {fd : FuncData} (F : Fun K "_law_one" "_law_one" sOne f fd) (T : Bi mg) (G : Has P w K mg base CX0 1 "_law_take" ["pool", "many"] spTake) : FnOk P w K mg base CX0 2 f fd ["pool", "things"] (spOne K) := by
  refine F.ok scOne (fun vs H Q E h => ?_) (fun cdv A outer s H vs Q E hr h => ?_)
  · obtain ⟨p, t, c, xs, rfl, _⟩ := h
    rfl
  · obtain ⟨p, t, c, xs, rfl, hP, hc, hx, hne, hl, hl2, q⟩ := h
    refine ⟨_, (pss_one (ps_ret (pe_ix ix_seq (pv 1) (pe_callH G hr (by rfl) pass0 (pa_cons (pv 0) (pa_cons (pe_callB call_len_seq (by rfl) T.len (by decide +kernel) (pa_cons (pv 1) pa_nil)) pa_nil))) (fun _ _ => rfl)))), ?_⟩
    refine ⟨_, rfl, _, rfl, _, rfl, t, xs, rfl, hx, p, c, _, rfl, hP, hc, by omega, by omega, fun r o h0 h1 hP' => ?_⟩
    obtain ⟨v, hv, hm⟩ := at_mem h0 h1
    rcases hx with hx | hx
    · refine .inl ⟨t, xs, _, v, rfl, rfl, ?_, hv, q v o hm hP'⟩
      rcases hx with (hx | ⟨u, hx⟩) | hx
      · exact .inl (.inl (by rw [upd_ne hne]; exact hx))
      · exact .inl (.inr ⟨u, by rw [upd_ne hne]; exact hx⟩)
      · exact .inr hx
    · refine .inr (.inl ⟨t, xs, _, v, rfl, rfl, ?_, hv, q v o hm hP'⟩)
      rcases hx with (hx | ⟨u, hx⟩) | hx
      · exact .inl (.inl (by rw [upd_ne hne]; exact hx))
      · exact .inl (.inr ⟨u, by rw [upd_ne hne]; exact hx⟩)
      · exact .inr hx
end

/-! ### what stays -/
abbrev sMixed : Stmt := topS 39
theorem scMixed : FnScope ["pool", "things", "left", "found", "k", "at"] ["pool", "things"] (defScope sMixed) := ⟨rfl, rfl, rfl, by decide +kernel, rfl, by decide +kernel, by decide +kernel⟩
/-- all but the pool's object stays -/
def Dr (p : Addr) (H H' : Hp) : Prop := ∀ b o, b ≠ p → H b = some o → H' b = some o
def spMixed (K : PySem.W.Frag) : Sp := fun vs H Q _ => ∃ (p t : Addr) (c : Nat) (xs : List V), vs = [.ref p, .ref t] ∧ Pool H p c ∧ c + xs.length < 100000 ∧ (SqL K H t xs ∨ SqT K H t xs) ∧ xs.length ≤ 1000 ∧
  ∀ l ys H', ys.Perm xs → Dr p H H' → Pool H' p (c + xs.length) → H l = none → H' l = some (.lst ys) → Q (.ref l) H'
theorem perm_out {xs fs ls : List V} {r : Nat} {v : V} (h : (fs ++ ls).Perm xs) (hv : ls[r]? = some v) : ((fs ++ [v]) ++ (ls.take r ++ ls.drop (r + 1))).Perm xs := by
  refine List.Perm.trans ?_ h
  rw [List.append_assoc]
  refine List.Perm.append_left fs ?_
  have hr : r < ls.length := (List.getElem?_eq_some_iff.mp hv).1
  have e : ls = ls.take r ++ (v :: ls.drop (r + 1)) := by
    have e1 : ls.drop r = v :: ls.drop (r + 1) := by
      rw [List.drop_eq_getElem_cons hr]
      rw [List.getElem?_eq_getElem hr] at hv
      rw [Option.some.inj hv]
    rw [← e1, List.take_append_drop]
  have e2 : ([v] ++ (ls.take r ++ ls.drop (r + 1))).Perm (ls.take r ++ (v :: ls.drop (r + 1))) := by
    refine List.Perm.symm ?_
    exact List.perm_middle
  rw [← e] at e2
  exact e2
theorem pool_new {H : Hp} {p q : Addr} {c : Nat} {o : HO} (h : Pool H p c) (n : H q = none) : Pool (upd H q o) p c := by
  obtain ⟨a, b, z, e, r⟩ := h
  exact ⟨a, b, z, by rw [upd_ne (fun k => by rw [← k, e] at n; cases n)]; exact e, r⟩
theorem pool_put {H : Hp} {p q : Addr} {c : Nat} {o : HO} (h : Pool H p c) (n : p ≠ q) : Pool (upd H q o) p c := by
  obtain ⟨a, b, z, e, r⟩ := h
  exact ⟨a, b, z, by rw [upd_ne n]; exact e, r⟩
theorem pool_ne {H : Hp} {p a : Addr} {c : Nat} (h : Pool H p c) (e : H a = none) : a ≠ p := fun z => by
  obtain ⟨x, y, w, hl, _⟩ := h
  rw [z, hl] at e
  cases e
section
variable {P : Program} {w : World} {K : PySem.W.Frag} {mg : Str → Option Value} {base : Heap}
theorem ok_mixed {f : Addr} {fd : FuncData} (F : Fun K "_law_mixed" "_law_mixed" sMixed f fd) (T : Bi mg) (G : Has P w K mg base CX0 1 "_law_take" ["pool", "many"] spTake) : FnOk P w K mg base CX0 2 f fd ["pool", "things"] (spMixed K) := by
  refine F.ok scMixed (fun vs H Q E h => ?_) (fun cdv A outer s H vs Q E hr h => ?_)
  · obtain ⟨p, t, c, xs, rfl, _⟩ := h
    rfl
  · obtain ⟨p, t, c, xs, rfl, hP, hc, hx, hl, q⟩ := h
    refine ⟨_, (pss_cons (ps_par (by rfl) scMixed.nd (i := 2) (j := 3) rfl rfl (by decide) rfl rfl (pa_cons (pe_callTy call_list_of (by rfl) T.list (by decide +kernel) (pa_cons (pv 1) pa_nil)) (pa_cons (pe_lst pa_nil) pa_nil)) (by rfl))
      (pss_cons (ps_for PassesOwn.never rfl (pi_range1 (by rfl) T.range (pa_cons (pe_callB call_len_seq (by rfl) T.len (by decide +kernel) (pa_cons (pv 1) pa_nil)) pa_nil)) (pg_name (i := 4) scMixed.nd rfl (.inl rfl)) (pss_cons (ps_set (i := 5) scMixed.nd rfl (.inl rfl) (pe_callH G hr (by rfl) pass0 (pa_cons (pv 0) (pa_cons (pe_callB call_len_seq (by rfl) T.len (by decide +kernel) (pa_cons (pv 2) pa_nil)) pa_nil))))
      (pss_cons (ps_expr (pe_bm PySem.F.plainAttrs_list PySem.F.slot_list_append PySem.F.type_list_append mt_append (pv 3) (pa_cons (pe_ix ix_list (pv 2) (pv 5) (fun _ _ => rfl)) pa_nil)))
      (pss_one (ps_set (i := 2) scMixed.nd rfl (.inl rfl) (pe_op op_cat (pe_slice sl_list (pv 2) po_none (po_some (pv 5))) (pe_slice sl_list (pv 2) (po_some (pe_op op_add (pv 5) pe_int)) po_none)))))))
      (pss_one (ps_ret (pv 3))))), ?_⟩
    refine ⟨_, rfl, t, xs, rfl, hx, fun L0 hL0 => ⟨(by show 0 ≤ sizeLine; decide), fun F0 hF0 => ?_⟩⟩
    refine ⟨_, _, rfl, ?_⟩
    have LF : F0 ≠ L0 := fun z => by rw [z, upd_same] at hF0; cases hF0
    have P2 := pool_new (o := .lst []) (pool_new (o := .lst xs) hP hL0) hF0
    have FH : H F0 = none := by
      rw [upd_ne LF] at hF0
      exact hF0
    have sm : Same H (upd (upd H L0 (.lst xs)) F0 (.lst [])) := (same_new hL0).trans (same_new hF0)
    have hx2 : SqL K (upd (upd H L0 (.lst xs)) F0 (.lst [])) t xs ∨ SqT K (upd (upd H L0 (.lst xs)) F0 (.lst [])) t xs := hx.imp (sqL_same sm) (sqT_same sm)
    have hlz : xs.length ≤ 1000 := hl
    refine ⟨_, rfl, t, xs, rfl, hx2, _, rfl, by omega, by omega, ?_⟩
    refine for_range (lo := 0) (n := ((xs.length : Int)).toNat) (fun i σ H1 => ∃ (L : Addr) (fs ls : List V) (o4 o5 : Option V), σ = [some (.ref p), some (.ref t), some (.ref L), some (.ref F0), o4, o5] ∧ Dr p H H1 ∧ Pool H1 p (c + i) ∧ H1 L = some (.lst ls) ∧ H1 F0 = some (.lst fs) ∧
        (fs ++ ls).Perm xs ∧ fs.length = i ∧ L ≠ F0 ∧ L ≠ p ∧ H L = none) ⟨L0, [], xs, none, none, rfl, fun b o _ e => sm _ _ e, P2, ?_, upd_same, .refl _, rfl, fun z => LF z.symm, pool_ne hP hL0, hL0⟩ ?_ ?_
    · rw [upd_ne (fun z => LF z.symm)]
      exact upd_same
    · rintro i σ H1 hi ⟨L, fs, ls, o4, o5, rfl, kp, hP1, hL, hF, pm, fl, nLF, nLp, HL⟩
      have lx := pm.length_eq
      rw [List.length_append] at lx
      have hi2 : i < xs.length := by omega
      have hls : 0 < ls.length := by omega
      have nFp : F0 ≠ p := pool_ne hP FH
      refine ⟨_, rfl, _, rfl, L, ls, rfl, .inl (SqL.of hL), p, c + i, _, rfl, hP1, by omega, by omega, by omega, fun r o h0 h1 hP2 => ?_⟩
      obtain ⟨r, rfl⟩ := Int.eq_ofNat_of_zero_le h0
      have hr : r < ls.length := by omega
      have hv := List.getElem?_eq_getElem hr
      have hL2 : (upd H1 p o) L = some (.lst ls) := by rw [upd_ne nLp]; exact hL
      have hF2 : (upd H1 p o) F0 = some (.lst fs) := by rw [upd_ne nFp]; exact hF
      have av : atI ls (r : Int) = some ls[r] := by
        unfold atI ixN
        rw [if_pos (by omega), if_pos (by omega)]
        show ls[((r : Int)).toNat]? = _
        rw [Int.toNat_natCast]
        exact hv
      refine ⟨_, rfl, .inl ⟨rfl, fs, SqL.of hF2⟩, _, rfl, _, rfl, L, ls, _, _, rfl, rfl, SqL.of hL2, av, F0, fs, _, rfl, rfl, hF2, small1000 (by omega), ?_⟩
      have hL3 : (upd (upd H1 p o) F0 (.lst (fs ++ [ls[r]]))) L = some (.lst ls) := by rw [upd_ne nLF]; exact hL2
      have hF3 : (upd (upd H1 p o) F0 (.lst (fs ++ [ls[r]]))) F0 = some (.lst (fs ++ [ls[r]])) := upd_same
      have hP3 := pool_put (o := .lst (fs ++ [ls[r]])) hP2 (fun z => nFp z.symm)
      have kp3 : Dr p H (upd (upd H1 p o) F0 (.lst (fs ++ [ls[r]]))) := fun b x n e => by
        rw [upd_ne (ne_of_none e FH), upd_ne n]
        exact kp b x n e
      generalize upd (upd H1 p o) F0 (.lst (fs ++ [ls[r]])) = H3 at hL3 hF3 hP3 kp3 ⊢
      refine ⟨_, rfl, _, rfl, _, rfl, L, ls, rfl, SqL.of hL3, fun a1 ha1 => ?_⟩
      have t1 := same_new (o := .lst (cutV ls none (some (r : Int)))) ha1
      refine ⟨_, rfl, _, rfl, _, _, rfl, rfl, _, rfl, L, ls, rfl, SqL.of (t1 _ _ hL3), fun a2 ha2 => ?_⟩
      have er : (r : Int) + 1 = ((r + 1 : Nat) : Int) := by omega
      rw [er, cut_to (by omega), cut_from (by omega)] at *
      have t2 := same_new (o := .lst (ls.drop (r + 1))) ha2
      have e1 := t2 _ _ (show (upd H3 a1 (.lst (ls.take r))) a1 = some (.lst (ls.take r)) from upd_same)
      refine ⟨a1, a2, _, _, rfl, rfl, e1, upd_same, ?_, fun L2 hL2 => ?_⟩
      · rw [List.length_take, List.length_drop]
        exact Nat.le_of_lt (small1000 (by omega))
      have t3 := same_new (o := .lst (ls.take r ++ ls.drop (r + 1))) hL2
      have tt := (t1.trans t2).trans t3
      have hP4 := pool_new (o := .lst (ls.take r ++ ls.drop (r + 1))) (pool_new (o := .lst (ls.drop (r + 1))) (pool_new (o := .lst (ls.take r)) hP3 ha1) ha2) hL2
      have nL2p : L2 ≠ p := pool_ne (pool_new (o := .lst (ls.drop (r + 1))) (pool_new (o := .lst (ls.take r)) hP3 ha1) ha2) hL2
      refine ⟨L2, fs ++ [ls[r]], ls.take r ++ ls.drop (r + 1), _, _, rfl, fun b x n e => tt _ _ (kp3 b x n e), hP4, upd_same, tt _ _ hF3, perm_out pm hv, by simp [fl], fun z => ?_, nL2p, ?_⟩
      · have q1 := (t1.trans t2) _ _ hF3
        rw [← z, hL2] at q1
        cases q1
      · cases e : H L2 with
        | none => rfl
        | some x =>
          have q1 := (t1.trans t2) _ _ (kp3 _ _ nL2p e)
          rw [hL2] at q1
          cases q1
    · rintro σ H1 ⟨L, fs, ls, o4, o5, rfl, kp, hP1, hL, hF, pm, fl, nLF, nLp, HL⟩
      have e : ((xs.length : Int)).toNat = xs.length := Int.toNat_natCast _
      rw [e] at hP1 fl
      have lx := pm.length_eq
      rw [List.length_append] at lx
      have z : ls = [] := List.eq_nil_of_length_eq_zero (by omega)
      rw [z, List.append_nil] at pm
      exact ⟨_, rfl, q F0 fs H1 pm kp hP1 FH hF⟩
end
end DR

namespace DR
open PySem PySem.Spec PyProof.Rows L2
/-! ### the law's keys and its order -/
/-- the pair of a key and an unknown -/
def PairK (H : Hp) (y : V) (u : List Key) : Prop := ∃ c a b k o, y = .ref c ∧ H c = some (.tup [.ref a, .ref b]) ∧ u = [.inr k, o] ∧ H a = some (.tup [.int ((rank k).getD 0), kV o]) ∧ H b = some (.tup [.str k, kV o])
def encK (u : List Key) : PyData := .tuple [keyD u, unkD u]
def leK : List Key → List Key → Bool := PySem.W.dataLe false encK
theorem keyDat_kD (o : Key) : keyDat o = kD o := by cases o <;> rfl
theorem pairK_dp {K : PySem.W.Frag} {H : Hp} {y : V} {u : List Key} (h : PairK H y u) : Dp K H y (encK u) := by
  obtain ⟨c, a, b, k, o, rfl, hc, rfl, ha, hb⟩ := h
  refine .tup (SqT.of hc) (.cons ?_ (.cons (dp_unk ⟨b, rfl, hb⟩) .nil))
  rw [keyD_is, ← keyDat_kD]
  exact .tup (SqT.of ha) (.cons (.int _) (.cons (dp_key o) .nil))
theorem pairK_s {H H' : Hp} (e : TupS H H') {y : V} {u : List Key} (h : PairK H y u) : PairK H' y u := by
  obtain ⟨c, a, b, k, o, h1, h2, h3, h4, h5⟩ := h
  exact ⟨c, a, b, k, o, h1, e _ _ h2, h3, e _ _ h4, e _ _ h5⟩
theorem R1_key {u u' : List Key} (h : NmU u) (h' : NmU u') : R1 (keyD u) (keyD u') := by
  obtain ⟨i, z, e⟩ := keyD_nm h
  obtain ⟨i', z', e'⟩ := keyD_nm h'
  exact .inr ⟨_, _, e, e', cmp_key h h' e e'⟩
theorem key_same {u u' : List Key} (h : NmU u) (h' : NmU u') (e : PyData.eqv (keyD u) (keyD u') = true) : u = u' := key_inj h h' ((toks_R1 _ _ (R1_key h h')).1 e)
theorem alike_unkD {u : List Key} (h : NmU u) : PySem.W.alike (unkD u) (unkD u) = true := by
  obtain ⟨k, o, rfl, _⟩ := h
  have := alike_kD o
  show PySem.W.alike (.tuple [.str k, keyDat o]) (.tuple [.str k, keyDat o]) = true
  rw [keyDat_kD]
  simp [PySem.W.alike, PySem.W.alikeAll, this]
theorem plain_unkD {u : List Key} (h : NmU u) : (unkD u).plain = true := by
  obtain ⟨k, o, rfl, _⟩ := h
  have := lay_kD o
  show (PyData.tuple [.str k, keyDat o]).plain = true
  rw [keyDat_kD]
  simp [PyData.plain, PyData.plainAll, this]
theorem plain_keyD {u : List Key} (h : NmU u) : (keyD u).plain = true := by
  obtain ⟨i, z, e⟩ := keyD_nm h
  rw [e]
  have := lay_kD z
  simp [PyData.plain, PyData.plainAll, this]
theorem cmp_enc {u u' : List Key} (h : NmU u) (h' : NmU u') : cmpL R1 [keyD u, unkD u] [keyD u', unkD u'] :=
  ⟨R1_key h h', fun e => by
    obtain rfl := key_same h h' e
    exact ⟨.inl (alike_unkD h), fun _ => trivial⟩⟩
theorem mix_enc {us : List (List Key)} (h : ∀ u ∈ us, NmU u) : Mix (us.map encK) (.type "tuple") := by
  refine ⟨fun d hd => ?_, fun xs ys hx hy => ?_, fun d hd => ?_⟩
  · obtain ⟨u, hu, rfl⟩ := List.mem_map.mp hd
    obtain ⟨i, z, e⟩ := keyD_nm (h u hu)
    exact ⟨_, _, rfl, by rw [e]; rfl⟩
  · obtain ⟨u, hu, e⟩ := List.mem_map.mp hx
    obtain ⟨u', hu', e'⟩ := List.mem_map.mp hy
    obtain rfl := PyData.tuple.inj e
    obtain rfl := PyData.tuple.inj e'
    exact cmp_enc (h u hu) (h u' hu')
  · obtain ⟨u, hu, rfl⟩ := List.mem_map.mp hd
    have h1 := plain_keyD (h u hu)
    have h2 := plain_unkD (h u hu)
    simp [encK, PyData.plain, PyData.plainAll, h1, h2]
theorem leK_is {a b : List Key} (ha : NmU a) (hb : NmU b) : leK a b = le2 a b := by
  show (!PySem.W.dataLt (encK b) (encK a)) = !PySem.W.dataLt (keyD b) (keyD a)
  cases e : PyData.eqv (keyD b) (keyD a) with
  | true =>
    obtain rfl := key_same hb ha e
    unfold PySem.W.dataLt
    rw [lex_irrefl, lex_irrefl]
  | false =>
    unfold encK
    rw [PySem.W.dataLt_tuple, lt_no toks_R1 (R1_key hb ha) e]
theorem sort_leK {us : List (List Key)} (h : ∀ u ∈ us, NmU u) : us.mergeSort leK = us.mergeSort le2 := PySem.W.sort_congr fun a ha b hb => leK_is (h a ha) (h b hb)
theorem depth_enc {u : List Key} (h : NmU u) : (encK u).depth ≤ 5 := by
  obtain ⟨k, o, rfl, _⟩ := h
  cases o <;> simp [encK, keyD, unkD, keyDat, PyData.depth, PyData.depthAll]
/-- sorted of such pairs -/
def rSortedK (K : PySem.W.Frag) : List V → Hp → VK → Prop := fun vs H Q => ∃ (a : Addr) (xs : List V) (us : List (List Key)), vs = [.ref a] ∧ SqL K H a xs ∧ PySem.W.EachIs (PairK H) xs us ∧ (∀ u ∈ us, NmU u) ∧
  ∀ (ys : List V) (p : Addr), PySem.W.EachIs (PairK H) ys (us.mergeSort le2) → H p = none → Q (.ref p) (upd H p (.lst ys))
theorem each_valsK {H : Hp} : ∀ {xs : List V} {its : List Value} {us : List (List Key)}, PySem.W.EachIs (PairK H) xs us → Vals xs its → PySem.W.EachIs (fun v u => ∃ y, L2.RelV y v ∧ PairK H y u) its us
  | _, _, _, .nil, .nil => .nil
  | _, _, _, .cons h t, .cons r rt => .cons ⟨_, r, h⟩ (each_valsK t rt)
theorem each_backK {H : Hp} : ∀ {its : List Value} {us : List (List Key)}, PySem.W.EachIs (fun v u => ∃ y, L2.RelV y v ∧ PairK H y u) its us → ∃ ys, Vals ys its ∧ PySem.W.EachIs (PairK H) ys us
  | _, _, .nil => ⟨[], .nil, .nil⟩
  | _, _, .cons ⟨y, r, h⟩ t => by
    obtain ⟨ys, r1, h1⟩ := each_backK t
    exact ⟨y :: ys, .cons r r1, .cons h h1⟩
theorem cr_sortedK {X : Cx} {k : Nat} (hr : Room k X.A) : CallR X (.builtin "sorted") (rSortedK X.K) := by
  intro pn s σ H vs ws Q I r h
  obtain ⟨a, xs, us, rfl, hs, he, nm, q⟩ := h
  obtain ⟨its, rv, hl, hz⟩ := I.list hs
  obtain ⟨u, rfl, ru⟩ := vals1 r
  obtain rfl : u = Value.ref a := ru
  have e := each_valsK he rv
  have er : PySem.W.EachIs (fun v u => ∃ as, Reads s.heap v (encK u) as) its us := eachs_imp (fun v u ⟨y, ry, hy⟩ => Dp.reads I (encK u) y v (pairK_dp hy) ry) e
  have lz : us.length ≤ sizeLine := by
    rw [← he.length]
    exact hz
  refine sorted_mix (bs := us) (enc := encK) (R := fun v u => ∃ y, L2.RelV y v ∧ PairK H y u) hl.isList e er (mix_enc nm) (by decide) lz (fun u hu => ?_) fun out hol ho => ?_
  · have h1 := depth_enc (nm u hu)
    have h2 := hr.units
    omega
  · rw [show us.mergeSort (PySem.W.dataLe false encK) = us.mergeSort le2 from sort_leK nm] at ho
    obtain ⟨ys, rv2, hy⟩ := each_backK ho
    obtain ⟨n, hn⟩ := sortedAll_at s.heap its out.toArray
    refine ⟨.ref (s.heap.objs.size + 1), upd H (s.heap.objs.size + 1) (.lst ys), I.laid (t' := s.toks) (fun b o e => sortedAll_old e) (Nat.le_succ _) ⟨?_, _, n, rv2, hn⟩, rfl, q ys _ hy (I.hok.fresh (Nat.le_succ _))⟩
    rw [hy.length, (List.mergeSort_perm _ _).length_eq]
    exact lz
/-! ### _law_key -/
def spLKey : Sp := fun vs H Q _ => ∃ (a : Addr) (k : Str) (o : Key), vs = [.ref a] ∧ H a = some (.tup [.str k, kV o]) ∧ (rank k).isSome = true ∧ ∀ p H', Same H H' → H' p = some (.tup [.int ((rank k).getD 0), kV o]) → Q (.ref p) H'
abbrev sLKey : Stmt := topS 40
theorem scLKey : FnScope ["unknown"] ["unknown"] (defScope sLKey) := ⟨rfl, rfl, rfl, by decide +kernel, rfl, by decide +kernel, by decide +kernel⟩
theorem rank_cases {k : Str} (h : (rank k).isSome = true) : k = sPiece ∨ k = sName ∨ k = sIn := by
  unfold rank at h
  by_cases c : k = sPiece
  · exact .inl c
  · rw [if_neg c] at h
    by_cases d : k = sName
    · exact .inr (.inl d)
    · rw [if_neg d] at h
      by_cases e : k = sIn
      · exact .inr (.inr e)
      · rw [if_neg e] at h
        cases h
theorem rank_at {k : Str} (h : (rank k).isSome = true) : ∃ (j : Nat) (z : V), (rank k).getD 0 = (j : Int) ∧ [V.str sPiece, V.str sName, V.str sIn][j]? = some z ∧ eqV z (.str k) = true ∧ ∀ (m : Nat) (z' : V), m < j → [V.str sPiece, V.str sName, V.str sIn][m]? = some z' → eqV z' (.str k) = false := by
  rcases rank_cases h with rfl | rfl | rfl
  · exact ⟨0, _, by decide +kernel, rfl, by decide +kernel, fun m z' hm => absurd hm (Nat.not_lt_zero _)⟩
  · refine ⟨1, _, by decide +kernel, rfl, by decide +kernel, fun m z' hm e => ?_⟩
    obtain rfl : m = 0 := by omega
    obtain rfl := Option.some.inj e
    decide +kernel
  · refine ⟨2, _, by decide +kernel, rfl, by decide +kernel, fun m z' hm e => ?_⟩
    rcases (by omega : m = 0 ∨ m = 1) with rfl | rfl
    · obtain rfl := Option.some.inj e
      decide +kernel
    · obtain rfl := Option.some.inj e
      decide +kernel
section
variable {P : Program} {w : World} {K : PySem.W.Frag} {mg : Str → Option Value} {base : Heap}
theorem ok_lkey {f : Addr} {fd : FuncData} (F : Fun K "_law_key" "_law_key" sLKey f fd) : FnOk P w K mg base CX0 1 f fd ["unknown"] spLKey := by
  refine F.ok scLKey (fun vs H Q E h => ?_) (fun cdv A outer s H vs Q E hr h => ?_)
  · obtain ⟨a, k, o, rfl, _⟩ := h
    rfl
  · obtain ⟨a, k, o, rfl, ha, hk, q⟩ := h
    refine ⟨_, (pss_one (ps_ret (pe_tup (pa_cons (pe_bm PySem.F.plainAttrs_list PySem.F.slot_list_index PySem.F.type_list_index mt_index (pe_lst (pa_cons pe_str (pa_cons pe_str (pa_cons pe_str pa_nil)))) (pa_cons (pe_ix ix_tup (pv 0) pe_int (fun _ _ => rfl)) pa_nil)) (pa_cons (pe_ix ix_tup (pv 0) pe_int (fun _ _ => rfl)) pa_nil))))), ?_⟩
    refine ⟨(by show 3 ≤ sizeLine; decide), fun l hl => ?_⟩
    have s1 := same_new (o := .lst [V.str sPiece, V.str sName, V.str sIn]) hl
    have hl1 : upd H l (.lst [V.str sPiece, V.str sName, V.str sIn]) l = some (.lst [V.str sPiece, V.str sName, V.str sIn]) := upd_same
    have ha1 := s1 _ _ ha
    obtain ⟨j, z, ej, hz, hzj, hno⟩ := rank_at hk
    refine ⟨.inl ⟨rfl, _, SqL.of hl1⟩, _, rfl, a, _, _, _, rfl, rfl, SqT.of ha1, at_of (i := 0) rfl, ?_⟩
    refine ⟨l, _, .str k, j, z, rfl, rfl, SqL.of hl1, rfl, rfl, hz, hzj, hno, ?_⟩
    refine ⟨_, rfl, a, _, _, _, rfl, rfl, SqT.of ha1, at_of (i := 1) rfl, (by show 2 ≤ sizeLine; decide), fun p hp => ?_⟩
    refine q _ _ (s1.trans (same_new hp)) ?_
    rw [upd_same, ej]
end
end DR

namespace DR
open PySem PySem.Spec PyProof.Rows L2
/-! ### _law_total -/
theorem accA_len (l : Mul) : (accAll l).length ≤ l.length := by
  have := plusA_len l []
  rw [List.length_nil, Nat.zero_add] at this
  exact this
theorem accA_nm {l : Mul} (h : ∀ u ∈ l.map (·.1), NmU u) : ∀ u ∈ (accAll l).map (·.1), NmU u := plusA_nm (l := []) h (fun u hu => by simp at hu)
def spTotal (K : PySem.W.Frag) : Sp := fun vs H Q _ => ∃ (n : Int) (l : Addr) (xs : List V) (ps : Mul), vs = [.int n, .ref l] ∧ (SqL K H l xs ∨ SqT K H l xs) ∧ PySem.W.EachIs (PartT H) xs ps ∧ (∀ u ∈ ps.map (·.1), NmU u) ∧ ps.length ≤ 400 ∧
  ∀ v' H', Same H H' → SumT H' v' n (form (accAll ps)) → Q v' H'
abbrev sTotal : Stmt := topS 41
theorem scTotal : FnScope ["number", "pairs", "found", "unknown", "many", "order", "key"] ["number", "pairs"] (defScope sTotal) := ⟨rfl, rfl, rfl, by decide +kernel, rfl, by decide +kernel, by decide +kernel⟩
theorem eachK_s {H H' : Hp} (e : TupS H H') {ys : List V} {us : List (List Key)} (h : PySem.W.EachIs (PairK H) ys us) : PySem.W.EachIs (PairK H') ys us := eachs_imp (fun _ _ => pairK_s e) h
section
variable {P : Program} {w : World} {K : PySem.W.Frag} {mg : Str → Option Value} {base : Heap}
theorem ok_total {f : Addr} {fd : FuncData} (F : Fun K "_law_total" "_law_total" sTotal f fd) (T : Bi mg) (G : Has P w K mg base CX0 2 "_law_key" ["unknown"] spLKey) : FnOk P w K mg base CX0 3 f fd ["number", "pairs"] (spTotal K) := by
  refine F.ok scTotal (fun vs H Q E h => ?_) (fun cdv A outer s H vs Q E hr h => ?_)
  · obtain ⟨n, l, xs, ps, rfl, _⟩ := h
    rfl
  · obtain ⟨n, l, xs, ps, rfl, hs, hxs, nm, few, q⟩ := h
    have hu := hu_of hr
    refine ⟨_, (pss_cons (ps_set (i := 2) scTotal.nd rfl (.inr rfl) (pe_dnewT))
      (pss_cons (ps_for PassesOwn.never rfl (pi_seq (pv 1)) (pg_tup rfl (pgs_cons (pg_name (i := 3) scTotal.nd rfl (.inl rfl)) (pgs_cons (pg_name (i := 4) scTotal.nd rfl (.inl rfl)) pgs_nil)))
        (pss_one (ps_dput hu (pv 2) (pv 3) (pe_op op_add (pe_dget2 hu (pv 2) (pv 3) pe_int ⟨rfl, rfl, rfl, rfl⟩) (pv 4)) rfl)))
      (pss_cons (ps_set (i := 5) scTotal.nd rfl (.inl rfl) (pe_callB (cr_sortedK hr) (by rfl) T.sorted (by decide +kernel) (pa_cons (pe_lock (pe_lc (own := [("unknown", 3)]) (g := gName 3) (tt := _) rfl scTotal.nd (pi_keys (pv 2)) (blkOk_by (N := ["number", "pairs", "found", "unknown", "many", "order", "key"]) (sc := defScope sTotal) (by decide +kernel)) (fun _ _ _ _ _ => pg_name (i := 3) scTotal.nd rfl (.inl rfl))
          (fun _ _ _ _ _ => pts_one (pt_cmpR op_ne (pe_dget hu (pv 2) (pv 3) (fun _ _ => rfl)) pe_int (nomark _))) (fun _ _ _ _ _ => (pe_tup (pa_cons (pe_callH G hr (by rfl) pass0 (pa_cons (pv 3) pa_nil)) (pa_cons (pv 3) pa_nil)))))) pa_nil)))
      (pss_one (ps_ret (pe_tup (pa_cons (pv 0) (pa_cons (pe_callTy call_tuple_of (by rfl) T.tuple (by decide +kernel) (pa_cons (pe_lc (own := [("key", 6), ("unknown", 3)]) (g := gTup K 2 (gCons (gName 6) (gCons (gName 3) gNil))) (tt := tYes) rfl scTotal.nd (pi_list (pv 5)) (blkOk_by (N := ["number", "pairs", "found", "unknown", "many", "order", "key"]) (sc := defScope sTotal) (by decide +kernel))
          (fun _ _ _ _ _ => (pg_tup rfl (pgs_cons (pg_name (i := 6) scTotal.nd rfl (.inl rfl)) (pgs_cons (pg_name (i := 3) scTotal.nd rfl (.inl rfl)) pgs_nil)))) (fun _ _ _ _ _ => pts_nil) (fun _ _ _ _ _ => (pe_tup (pa_cons (pv 3) (pa_cons (pe_dget hu (pv 2) (pv 3) (fun _ _ => rfl)) pa_nil))))) pa_nil)) pa_nil)))))))), ?_⟩
    refine fun d hD0 => ?_
    have s0 : Same H (upd H d (.dT [])) := same_new hD0
    have lx : xs.length = ps.length := hxs.length
    refine ⟨_, rfl, l, xs, rfl, row_sq s0 hs, fun J Gd W hG => ?_⟩
    refine for_it W (fun i σ H4 => ∃ (w1 w2 : Option V), σ = [some (.int n), some (.ref l), some (.ref d), w1, w2, none, none] ∧ Same H H4 ∧ H4 d = some (.dT (vKv (accAll (ps.take i)))))
      ⟨none, none, rfl, s0, upd_same⟩ (fun i σ H4 _ ⟨_, _, _, s4, _⟩ => hG H4 (fun z => sqL_same s4 (sqL_drop z)) (fun z => sqT_same s4 (sqT_drop z))) ?_ ?_
    · rintro i x σ H4 H4' hi ⟨w1, w2, rfl, s4, hD4⟩ ⟨rfl, hx⟩
      obtain ⟨u, m, c, e, hum, rfl, hc, he⟩ := part_get hxs hx
      have hi2 : i < ps.length := (List.getElem?_eq_some_iff.mp hum).1
      have al := accA_len (ps.take i)
      rw [List.length_take] at al
      refine ⟨c, _, rfl, SqT.of (s4 _ _ hc), rfl, _, _, rfl, _, _, rfl, rfl, ?_⟩
      refine ⟨_, rfl, d, rfl, .inr ⟨_, .inl hD4⟩, _, rfl, _, DGet.t hD4 (s4 _ _ he), _, rfl, getI (accAll (ps.take i)) u, m, getD_val _ u, rfl, ?_⟩
      refine ⟨_, rfl, _, rfl, d, _, rfl, DPut.t hD4 (s4 _ _ he) (by
        rw [vKv_len]
        exact small1000 (by omega)), ?_⟩
      rw [put_vKv]
      refine ⟨_, _, rfl, fun b o eb => ?_, ?_⟩
      · rw [upd_ne (ne_of_none eb hD0)]
        exact s4 _ _ eb
      · rw [upd_same, List.take_add_one, hum]
        unfold accAll
        rw [List.foldl_append]
        rfl
    · rintro σ H0 ⟨w1, w2, rfl, sH, hd⟩
      rw [lx, List.take_length] at hd
      have al := accA_len ps
      have hn := accA_nm nm
      generalize accAll ps = kvs at hd al hn q
      refine ⟨d, _, hd, trivial, fun od => ⟨_, rfl, d, od, rfl, .inr ⟨_, upd_same, fun D hD => ?_⟩⟩⟩
      have lenK : (vKv kvs).length = kvs.length := List.length_map _
      have hDd : D ≠ d := by
        intro z
        rw [z, upd_same] at hD
        cases hD
      have hDn : H0 D = none := by
        rw [upd_ne hDd] at hD
        exact hD
      refine lc_it walk_keysT (fun i H1 => (∀ b o, b ≠ D → upd H0 d (.frz od (.dT (vKv kvs))) b = some o → H1 b = some o) ∧ ∃ ys, H1 D = some (.lst ys) ∧ ys.length ≤ i ∧ PySem.W.EachIs (PairK H1) ys (((kvs.take i).map (·.1)).filter fun u => !decide (getI kvs u = 0)))
        ⟨fun b o hb e => by rw [upd_ne hb]; exact e, [], upd_same, Nat.le_refl _, .nil⟩ (fun i H1 _ ⟨kp, _⟩ => kp _ _ hDd.symm upd_same) ?_ ?_
      · rintro i x H1 H1' hi ⟨kp, ys, hD1, hlen, he⟩ ⟨rfl, k, v, qa, hk, rfl, hq⟩
        have hi' : i < kvs.length := by rw [lenK] at hi; exact hi
        obtain ⟨⟨k0, m⟩, hm⟩ : ∃ p, kvs[i]? = some p := ⟨kvs[i], List.getElem?_eq_getElem hi'⟩
        have hk2 : (k, v) = (k0, V.int m) := by
          unfold vKv at hk
          rw [List.getElem?_map, hm] at hk
          exact (Option.some.inj hk).symm
        cases hk2
        have hmem : k ∈ kvs.map (·.1) := List.mem_map.mpr ⟨_, List.mem_of_getElem? hm, rfl⟩
        have hd1 : H1' d = some (.frz od (.dT (vKv kvs))) := kp _ _ hDd.symm upd_same
        refine ⟨rfl, _, rfl, _, rfl, d, .int (getI kvs k), rfl, .inr ⟨vKv kvs, k, qa, .inr ⟨od, hd1⟩, rfl, hq, (valV_mem hmem).symm⟩, rfl, _, rfl, ?_⟩
        rw [eq_int]
        have tk : (kvs.take (i + 1)).map (·.1) = (kvs.take i).map (·.1) ++ [k] := by
          rw [List.take_add_one, hm]
          simp
        cases c : !decide (getI kvs k = 0) with
        | true =>
          obtain ⟨kk, o, rfl, hk1, _⟩ := hn k hmem
          refine iteT ⟨_, rfl, qa, kk, o, rfl, hq, hk1, fun p H2 s2 hp => ?_⟩
          refine ⟨_, rfl, (by show 2 ≤ sizeLine; decide), fun t ht => ?_⟩
          have st := same_new (o := .tup [V.ref p, V.ref qa]) ht
          have hD3 : upd H2 t (.tup [V.ref p, V.ref qa]) D = some (.lst ys) := st _ _ (s2 _ _ hD1)
          have tD : t ≠ D := fun z => by
            rw [z, s2 _ _ hD1] at ht
            cases ht
          have ts : TupS H1' (upd (upd H2 t (.tup [V.ref p, V.ref qa])) D (.lst (ys ++ [.ref t]))) := (TupS.of (s2.trans st)).trans (TupS.put hD3 (by intro xs z; cases z))
          have ts2 : TupS (upd H2 t (.tup [V.ref p, V.ref qa])) (upd (upd H2 t (.tup [V.ref p, V.ref qa])) D (.lst (ys ++ [.ref t]))) := TupS.put hD3 (by intro xs z; cases z)
          refine ⟨ys, hD3, small1000 (by omega), fun b o' hb e => ?_, ys ++ [.ref t], upd_same, by simp; omega, ?_⟩
          · rw [upd_ne hb]
            exact st _ _ (s2 _ _ (kp b o' hb e))
          · rw [tk, List.filter_append]
            have z : [([.inr kk, o] : List Key)].filter (fun u => !decide (getI kvs u = 0)) = [[.inr kk, o]] := by simp [List.filter, c]
            rw [z]
            exact eachs_snoc ⟨t, p, qa, kk, o, rfl, ts2 _ _ upd_same, rfl, ts2 _ _ (st _ _ hp), ts _ _ hq⟩ (eachK_s ts he)
        | false =>
          refine iteF ⟨kp, ys, hD1, by omega, ?_⟩
          rw [tk, List.filter_append]
          have z : [k].filter (fun u => !decide (getI kvs u = 0)) = [] := by simp [List.filter, c]
          rw [z, List.append_nil]
          exact he
      · rintro H1 ⟨kp, ys, hD1, hlen, he⟩
        have tl : (kvs.take (vKv kvs).length) = kvs := by rw [lenK]; exact List.take_length
        rw [tl] at he
        have hd1 : H1 d = some (.frz od (.dT (vKv kvs))) := kp _ _ hDd.symm upd_same
        have sm : Same H0 (upd H1 d (.dT (vKv kvs))) := fun b o e => by
          by_cases hb : b = d
          · rw [hb] at e ⊢
            rw [upd_same]
            exact hd.symm.trans e
          · rw [upd_ne hb]
            refine kp b o (ne_of_none e hDn) ?_
            rw [upd_ne hb]
            exact e
        have eD : (upd H1 d (.dT (vKv kvs))) D = some (.lst ys) := by
          rw [upd_ne hDd]
          exact hD1
        have he2 : PySem.W.EachIs (PairK (upd H1 d (.dT (vKv kvs)))) ys (keysN kvs) := eachK_s (TupS.put hd1 (by intro xs z; cases z)) he
        have hnK : ∀ u ∈ keysN kvs, NmU u := fun u hu => hn u (List.mem_filter.mp hu).1
        refine ⟨hd1, D, ys, keysN kvs, rfl, SqL.of eD, he2, hnK, fun zs p hz hp => ?_⟩
        generalize hH2 : upd H1 d (.dT (vKv kvs)) = H2 at sm eD he2 hp hz ⊢
        have h2d : H2 d = some (.dT (vKv kvs)) := by rw [← hH2, upd_same]
        have sm3 : Same H2 (upd H2 p (.lst zs)) := same_new hp
        have hz3 : PySem.W.EachIs (PairK (upd H2 p (.lst zs))) zs ((keysN kvs).mergeSort le2) := eachK_s (TupS.of sm3) hz
        have lz : zs.length = ((keysN kvs).mergeSort le2).length := hz.length
        have lz2 : zs.length ≤ 1000 := by
          rw [lz, (List.mergeSort_perm _ _).length_eq]
          unfold keysN
          refine Nat.le_trans (List.length_filter_le _ _) ?_
          rw [List.length_map]
          omega
        generalize hH3 : upd H2 p (.lst zs) = H3 at sm3 hz3 ⊢
        have h3d : H3 d = some (.dT (vKv kvs)) := sm3 _ _ h2d
        have h3p : H3 p = some (.lst zs) := by rw [← hH3, upd_same]
        refine ⟨_, rfl, _, rfl, p, rfl, ⟨_, SqL.of h3p⟩, fun D2 hD2 => ?_⟩
        have pD2 : p ≠ D2 := ne_of_none h3p hD2
        refine lc_it (walk_list (xs := zs)) (fun i H4 => (∀ b o, b ≠ D2 → H3 b = some o → H4 b = some o) ∧ ∃ ps, H4 D2 = some (.lst ps) ∧ ps.length = i ∧ PySem.W.EachIs (PartT H4) ps ((((keysN kvs).mergeSort le2).take i).map fun u => (u, getI kvs u)))
          ⟨fun b o hb e => by rw [upd_ne hb]; exact e, [], upd_same, rfl, .nil⟩ (fun i H4 _ ⟨kp, _⟩ => SqL.of (kp _ _ pD2 h3p)) ?_ ?_
        · rintro i x H4 H4' hi ⟨kp4, ps, h4D, hps, hdp⟩ ⟨rfl, hx⟩
          obtain ⟨u, hu1, c, ka, a, kk, o, rfl, hc, rfl, hka, ha⟩ := eachs_get hz3 hx
          have ha4 := kp4 _ _ (ne_of_none ha hD2) ha
          have h4d := kp4 _ _ (ne_of_none h3d hD2) h3d
          have hmem : [.inr kk, o] ∈ kvs.map (·.1) := (List.mem_filter.mp (mem_sort (List.mem_of_getElem? hu1))).1
          refine ⟨c, _, rfl, SqT.of (kp4 _ _ (ne_of_none hc hD2) hc), rfl, _, _, rfl, _, _, rfl, rfl, rfl, yes_go (iteT ⟨_, rfl, _, rfl, _, rfl, d, .int (getI kvs [.inr kk, o]), rfl, .inr ⟨vKv kvs, [.inr kk, o], a, .inl h4d, rfl, ha4, (valV_mem hmem).symm⟩, (by show 2 ≤ sizeLine; decide), fun t ht => ⟨ps, ?_, small1000 (by omega), ?_, ps ++ [.ref t], upd_same, by simp; omega, ?_⟩⟩)⟩
          · rw [upd_ne (ne_of_none h4D ht)]
            exact h4D
          · intro b o' hb e
            rw [upd_ne hb, upd_ne (ne_of_none (kp4 b o' hb e) ht)]
            exact kp4 b o' hb e
          · have tD : t ≠ D2 := fun z => by rw [z, h4D] at ht; cases ht
            have ts : TupS H4' (upd (upd H4' t (.tup [.ref a, .int (getI kvs [.inr kk, o])])) D2 (.lst (ps ++ [.ref t]))) := (TupS.of (same_new ht)).trans (TupS.put (o := .lst ps) (by
              rw [upd_ne (ne_of_none h4D ht)]
              exact h4D) (by intro xs z; cases z))
            rw [List.take_add_one, hu1]
            simp only [Option.toList_some, List.map_append, List.map_cons, List.map_nil]
            refine eachs_snoc ⟨t, a, rfl, ?_, ts _ _ ha4⟩ (eachs_imp (fun _ _ => partT_s ts) hdp)
            rw [upd_ne tD, upd_same]
        · rintro H4 ⟨kp4, ps, h4D, hps, hdp⟩
          have tl2 : ((keysN kvs).mergeSort le2).take zs.length = (keysN kvs).mergeSort le2 := by rw [lz]; exact List.take_length
          rw [tl2] at hdp
          refine ⟨D2, ps, rfl, .inl ⟨SqL.of h4D, fun l' hl4 => ⟨(by show 2 ≤ sizeLine; decide), fun r hr5 => ?_⟩⟩⟩
          have s4 : Same H3 H4 := fun b o e => kp4 b o (ne_of_none e hD2) e
          have s5 := same_new (o := .tup ps) hl4
          have s6 := same_new (o := .tup [.int n, .ref l']) hr5
          refine q _ _ (((((sH.trans sm).trans sm3).trans s4).trans s5).trans s6) ?_
          have el : (upd (upd H4 l' (.tup ps)) r (.tup [.int n, .ref l'])) l' = some (.tup ps) := s6 _ _ upd_same
          exact ⟨r, l', ps, rfl, upd_same, el, eachs_imp (fun _ _ => partT_s (TupS.of (s5.trans s6))) hdp⟩
end
end DR

namespace DR
open PySem PySem.Spec PyProof.Rows L2
/-! ### dict comprehensions of two sources, their keys tuples -/
abbrev DC (ke ve t0 i0 t1 i1 : Expr) (c0 c1 : List Expr) (sc : Scope) (po : Pos) : Expr := .DictComp ke ve [⟨t0, i0, c0, 0⟩, ⟨t1, i1, c1, 0⟩] sc po
theorem turn_a (ke ve t0 i0 t1 i1 : Expr) (c0 c1 : List Expr) (sc : Scope) (po : Pos) (ai : Value) (D : Addr) (en : Env) :
    compTurn (DC ke ve t0 i0 t1 i1 c0 c1 sc po) 0 ai (.ref D) en = (do
      standAt i0.pos
      match ← pyNext ai with
      | none => pure (.done .next)
      | some got =>
        letOwnedTupleGo t0 ai got
        assign t0 en got
        let mut yes := true
        for cond in c0 do
          if yes then yes ← isTrue cond en (eval cond en)
        if yes then
          let src ← eval i1 en
          standAt i1.pos
          let src ← foldedSetIterable i1 en src
          let _ ← runOwn (.compStart (DC ke ve t0 i0 t1 i1 c0 c1 sc po) 1 (← holding [src] (pyIter src)) (.ref D) en) en
        again (.compLoop (DC ke ve t0 i0 t1 i1 c0 c1 sc po) 0 ai (.ref D) en)) := by rfl
theorem turn_b (ke ve t0 i0 t1 i1 : Expr) (c0 c1 : List Expr) (sc : Scope) (po : Pos) (bi : Value) (D : Addr) (en : Env) :
    compTurn (DC ke ve t0 i0 t1 i1 c0 c1 sc po) 1 bi (.ref D) en = (do
      standAt i1.pos
      match ← pyNext bi with
      | none => pure (.done .next)
      | some got =>
        letOwnedTupleGo t1 bi got
        assign t1 en got
        let mut yes := true
        for cond in c1 do
          if yes then yes ← isTrue cond en (eval cond en)
        if yes then
          (do
            let ky ← eval ke en
            let vl ← holding [ky] (eval ve en)
            standAt { ke.pos with endLine := ve.pos.endLine, endCol := ve.pos.endCol }
            holding [ky, vl] (dictSet D ky vl))
        again (.compLoop (DC ke ve t0 i0 t1 i1 c0 c1 sc po) 1 bi (.ref D) en)) := by rfl
section
variable {prog : Program} {w : World} {A : Around} {R : Result → Shared → Prop} {s : Shared} {ke ve t0 i0 t1 i1 : Expr} {c0 c1 : List Expr} {sc : Scope} {po : Pos} {ai : Value} {D : Addr} {en : Env}
abbrev Nt (prog : Program) (w : World) (A : Around) (en : Env) (R : Result → Shared → Prop) : Value → Shared → Prop := notedBy (model prog w) A en fun e s' => R (.error e) s'
abbrev Back (n : Nat) (J : Nat → Shared → Prop) (s' : Shared) : Prop := ∃ m, m < n ∧ J m s'
theorem loop_a (fold : ∀ x, foldedSetIterable i1 en x = pure x) (J : Nat → Shared → Prop)
    (turn : ∀ n s, J n s → wpAny (model prog w) A (pyNext ai) (fun r sa => match r with
      | none => R (.ok .next) sa
      | some got => wpAny (model prog w) A (letOwnedTupleGo t0 ai got) (fun _ sb => wpAny (model prog w) A (assign t0 en got) (fun _ sd => wpAny (model prog w) A (forIn c0 true fun c r => if r = true then do let ok ← isTrue c en (eval c en); pure (ForInStep.yield ok) else pure (ForInStep.yield r)) (fun yes se =>
          if yes = true then wpAny (model prog w) A (eval i1 en) (fun src sf => wpAny (model prog w) A (pyIter src) (fun bi sg => codeAny (model prog w) A (.compStart (DC ke ve t0 i0 t1 i1 c0 c1 sc po) 1 bi (.ref D) en) (fun r s' => match r with
            | .ok _ => Back n J s'
            | .error _ => False) sg) (Nt prog w A en R) sf) (Nt prog w A en R) se
          else Back n J se) (Nt prog w A en R) sd) (Nt prog w A en R) sb) (Nt prog w A en R) sa) (Nt prog w A en R) s)
    (n : Nat) (h : J n s) : codeAny (model prog w) A (.compLoop (DC ke ve t0 i0 t1 i1 c0 c1 sc po) 0 ai (.ref D) en) R s := by
  refine codeAny_loop rfl J (fun n sx hJ => ?_) n h
  show wpAny _ A ((compTurn (DC ke ve t0 i0 t1 i1 c0 c1 sc po) 0 ai (.ref D) en).onRaise (fun x => do noteFrame x en; theTreesLotGoes x)) _ _ sx
  refine wpAny_noted ?_
  rw [turn_a]
  refine wpAny_bind (wpAny_standAt (wpAny_bind (wpAny_mono (turn n sx hJ) (fun r sa ha => ?_) fun _ _ z => z)))
  cases r with
  | none => exact wpAny_pure ha
  | some got =>
    refine wpAny_bind (wpAny_mono ha (fun _ sb hb => ?_) fun _ _ z => z)
    refine wpAny_bind (wpAny_mono hb (fun _ sd hd => wpAny_bind (wpAny_mono hd (fun yes se he => ?_) fun _ _ z => z)) fun _ _ z => z)
    cases yes with
    | false => exact wpAny_pure ⟨rfl, he⟩
    | true =>
      refine wpAny_bind (wpAny_mono he (fun src sf hf => ?_) fun _ _ z => z)
      refine wpAny_bind (wpAny_standAt (wpAny_bind (wpAny_of_eq (fold src) (wpAny_bind (wpAny_holding (wpAny_mono hf (fun bi sg hg => ?_) fun _ _ z => z))))))
      refine wpAny_bind (wpAny_runOwn ?_)
      rw [Around.mark_none]
      refine codeAny_mono hg fun r s' hr => ?_
      cases r with
      | error e => exact hr.elim
      | ok fl =>
        first
          | exact wpAny_pure (And.intro rfl hr)
          | exact wpAny_bind (wpAny_pure (wpAny_pure (And.intro rfl hr)))
theorem loop_b (J : Nat → Shared → Prop)
    (turn : ∀ n s, J n s → wpAny (model prog w) A (pyNext ai) (fun r sa => match r with
      | none => R (.ok .next) sa
      | some got => wpAny (model prog w) A (letOwnedTupleGo t1 ai got) (fun _ sb => wpAny (model prog w) A (assign t1 en got) (fun _ sd => wpAny (model prog w) A (forIn c1 true fun c r => if r = true then do let ok ← isTrue c en (eval c en); pure (ForInStep.yield ok) else pure (ForInStep.yield r)) (fun yes se =>
          if yes = true then wpAny (model prog w) A (eval ke en) (fun ky sf => wpAny (model prog w) A (eval ve en) (fun vl sg => wpAny (model prog w) A (dictSet D ky vl) (fun _ sh => Back n J sh) (Nt prog w A en R) sg) (Nt prog w A en R) sf) (Nt prog w A en R) se
          else Back n J se) (Nt prog w A en R) sd) (Nt prog w A en R) sb) (Nt prog w A en R) sa) (Nt prog w A en R) s)
    (n : Nat) (h : J n s) : codeAny (model prog w) A (.compLoop (DC ke ve t0 i0 t1 i1 c0 c1 sc po) 1 ai (.ref D) en) R s := by
  refine codeAny_loop rfl J (fun n sx hJ => ?_) n h
  show wpAny _ A ((compTurn (DC ke ve t0 i0 t1 i1 c0 c1 sc po) 1 ai (.ref D) en).onRaise (fun x => do noteFrame x en; theTreesLotGoes x)) _ _ sx
  refine wpAny_noted ?_
  rw [turn_b]
  refine wpAny_bind (wpAny_standAt (wpAny_bind (wpAny_mono (turn n sx hJ) (fun r sa ha => ?_) fun _ _ z => z)))
  cases r with
  | none => exact wpAny_pure ha
  | some got =>
    refine wpAny_bind (wpAny_mono ha (fun _ sb hb => ?_) fun _ _ z => z)
    refine wpAny_bind (wpAny_mono hb (fun _ sd hd => wpAny_bind (wpAny_mono hd (fun yes se he => ?_) fun _ _ z => z)) fun _ _ z => z)
    cases yes with
    | false => exact wpAny_pure ⟨rfl, he⟩
    | true =>
      refine wpAny_bind (wpAny_bind (wpAny_mono he (fun ky sf hf => ?_) fun _ _ z => z))
      refine wpAny_bind (wpAny_holding (wpAny_mono hf (fun vl sg hg => ?_) fun _ _ z => z))
      exact wpAny_bind (wpAny_standAt (wpAny_holding (wpAny_mono hg (fun _ sh hh => wpAny_pure ⟨rfl, hh⟩) fun _ _ z => z)))
theorem start_b (here : codeAny (model prog w) A (.compLoop (DC ke ve t0 i0 t1 i1 c0 c1 sc po) 1 ai (.ref D) en) R s)
    (itr : wpAny (model prog w) A (pyIter ai) (fun bi s' => codeAny (model prog w) A (.compLoop (DC ke ve t0 i0 t1 i1 c0 c1 sc po) 1 bi (.ref D) en) R s') (Nt prog w A en R) s) :
    codeAny (model prog w) A (.compStart (DC ke ve t0 i0 t1 i1 c0 c1 sc po) 1 ai (.ref D) en) R s := by
  refine codeAny_of_tree ?_
  show wpAny _ _ ((compStart (DC ke ve t0 i0 t1 i1 c0 c1 sc po) 1 ai (.ref D) en).onRaise (fun x => do noteFrame x en; standAt theWindowsPlace)) _ _ s
  refine wpAny_notedAt ?_
  unfold compStart
  show wpAny _ _ (ask >>= _) _ _ s
  refine wpAny_bind (wpAny_askSetting (wpAny_ite ?_))
  split
  · first
      | exact wpAny_pure ⟨rfl, here⟩
      | exact wpAny_bind (wpAny_pure (wpAny_pure ⟨rfl, here⟩))
  · first
      | exact wpAny_bind (wpAny_rule (wpAny_bind (wpAny_standAt (wpAny_bind (wpAny_mono itr (fun bi s' hb => wpAny_pure ⟨rfl, hb⟩) fun _ _ z => z)))))
      | (refine wpAny_bind (wpAny_rule ?_); show wpAny _ _ (standAt i1.pos >>= _) _ _ s; exact wpAny_bind (wpAny_standAt (wpAny_bind (wpAny_mono itr (fun bi s' hb => wpAny_pure ⟨rfl, hb⟩) fun _ _ z => z))))
end
/-- one turn of the outer loop -/
def turnT2 (g : TG) (tt : TT) (wi1 : TI) (g1 : TG) (tt1 : TT) (tk tv : TE) (σ0 : L2.St) (vs vs1 : List Nat) (D : Addr) (Nx : Hp → Prop) (x : V) (Ha : Hp) : Prop :=
  g x (wipe σ0 vs) Ha fun σ1 Hb => wipe σ1 vs = wipe σ0 vs ∧ tt σ1 Hb fun b Hc => if b = true then wi1 σ1 Hc fun J1 Hd => ∃ W1 : Nat → Nat → Hp → Prop, (∃ n, W1 0 n Hd) ∧
    ∀ j k He, W1 j k He → (J1.stop j He ∧ Nx He) ∨ (J1.go j He ∧ ∃ Nx1 : Hp → Prop, (∀ Hf, Nx1 Hf → ∃ k', k' < k ∧ W1 (j + 1) k' Hf) ∧ ∀ y Hf, J1.yld j He y Hf → turnT g1 tt1 tk tv σ1 vs1 D Nx1 y Hf) else Nx Hc
def tDt2 (wi : TI) (g : TG) (tt : TT) (wi1 : TI) (g1 : TG) (tt1 : TT) (tk tv : TE) (vs vs1 : List Nat) : TE := fun σ H Q => wi σ H fun J Ha => ∀ D, Ha D = none → ∃ W : Nat → Nat → Hp → Prop, (∃ n, W 0 n (upd Ha D (.dT []))) ∧
  ∀ j n Hb, W j n Hb → (J.stop j Hb ∧ Q (.ref D) Hb) ∨ (J.go j Hb ∧ ∃ Nx : Hp → Prop, (∀ Hc, Nx Hc → ∃ n', n' < n ∧ W (j + 1) n' Hc) ∧ ∀ x Hc, J.yld j Hb x Hc → turnT2 g tt wi1 g1 tt1 tk tv σ vs vs1 D Nx x Hc)
section
variable {X : Cx}
theorem run_dt2 {pn : List (Addr × Obj)} {s : Shared} {σ : L2.St} {H : Hp} {Q : VK} {ke ve t0 i0 t1 i1 : Expr} {c0 c1 : List Expr} {sc : Scope} {own : List (Str × Nat)} {vs1 : List Nat} {po po' : Pos} {wi wi1 : TI} {g g1 : TG} {tt tt1 : TT} {tk tv : TE} {use : Option (Value → Sem Unit)} {Fi : Value → Shared → Prop}
    (hu : X.A.units + 1 < cLine) (calm : X.calm = true) (nod : X.N.Nodup) (I : Inv X pn σ H s) (walks : PI X t0 i0 wi) (blk : BlkOk X.N X.env.scope sc own) (inn : ∀ i ∈ vs1, i ∈ own.map (·.2))
    (rg : ∀ (s : Shared) (H : Hp) (C : Addr) (cl : List (Str × Addr)) (fp : List Addr), PG (X.blk s H sc (compEnvC sc cl C X.env) fp) t0 g) (rt : ∀ (s : Shared) (H : Hp) (C : Addr) (cl : List (Str × Addr)) (fp : List Addr), PTs (X.blk s H sc (compEnvC sc cl C X.env) fp) c0 tt)
    (ri1 : ∀ (s : Shared) (H : Hp) (C : Addr) (cl : List (Str × Addr)) (fp : List Addr), PI (X.blk s H sc (compEnvC sc cl C X.env) fp) t1 i1 wi1)
    (rg1 : ∀ (s : Shared) (H : Hp) (C : Addr) (cl : List (Str × Addr)) (fp : List Addr), PG (X.blk s H sc (compEnvC sc cl C X.env) fp) t1 g1) (rt1 : ∀ (s : Shared) (H : Hp) (C : Addr) (cl : List (Str × Addr)) (fp : List Addr), PTs (X.blk s H sc (compEnvC sc cl C X.env) fp) c1 tt1)
    (rk : ∀ (s : Shared) (H : Hp) (C : Addr) (cl : List (Str × Addr)) (fp : List Addr), PE (X.blk s H sc (compEnvC sc cl C X.env) fp) ke tk) (rv : ∀ (s : Shared) (H : Hp) (C : Addr) (cl : List (Str × Addr)) (fp : List Addr), PE (X.blk s H sc (compEnvC sc cl C X.env) fp) ve tv)
    (fold : ∀ x, foldedSetIterable i0 X.env x = pure x) (fold1 : ∀ en x, foldedSetIterable i1 en x = pure x) (asks : tDt2 wi g tt wi1 g1 tt1 tk tv (own.map (·.2)) vs1 σ H Q)
    (last : ∀ D C s' m H', Inv X pn σ H' s' → Q (.ref D) H' → s'.heap.Ns C m → FpOk X pn H' C → compPost (model X.prog X.w) X.A X.xe use Fi (.ref D) C (.ok .next) s') :
    wpAny (model X.prog X.w) X.A (comprehension (DC ke ve t0 i0 t1 i1 c0 c1 sc po) sc X.env po' newDict false (eval i0 X.env) use) Fi X.xe s := by
  have freeOk : ∀ y ∈ sc.names, y.2 = .free → ∃ c, X.env.cells.lookup y.1 = some c := fun y hy e => (blk.free y hy e).elim (fun k => I.ok.has _ (.inl k)) fun k => I.ok.has _ (.inr k)
  refine wpAny_comprehension_free (use := use) rfl fold (closure_ok freeOk) blk.kind (fun y hy e => by rw [blk.uniq y hy, e]) (thn (walks.run pn s σ H _ I asks) fun _ sa ha => thn ha fun _ sb hb => ?_)
  obtain ⟨it, fp, tn, J, Hb, rfl, Ib, T, stb, fpb, q⟩ := hb
  refine wpAny_newObj_type (newEnv_comp ?_)
  have freeD : Hb sb.heap.objs.size = none := Ib.hok.fresh (Nat.le_refl _)
  obtain ⟨W, ⟨n0, w0⟩, turns⟩ := q _ freeD
  have Ic : Inv X pn σ (upd Hb sb.heap.objs.size (.dT [])) { sb with heap := sb.heap.push { cls := .type "dict", data := .dict #[] } } := Ib.laid (t' := sb.toks) (fun _ _ e => Heap.get?_push_of_some _ e) (Nat.le_refl _) (dt_empty sb.heap Ib.big)
  generalize eD : sb.heap.objs.size = D at freeD w0 turns Ic ⊢
  generalize ec : ({ sb with heap := sb.heap.push { cls := .type "dict", data := .dict #[] } } : Shared) = c at Ic
  have hc : c.heap = sb.heap.push { cls := .type "dict", data := .dict #[] } := by rw [← ec]
  have below : ∀ b ∈ fp, b < D := fun b hb => by
    obtain ⟨o, e, _⟩ := T.obj _ _ stb b hb
    rw [← eD]
    exact Heap.lt_size e
  generalize eH : upd Hb D (.dT []) = Hc at Ic w0
  have fpc : ∀ b ∈ fp, FpOk X pn Hc b ∧ b < c.heap.objs.size := fun b hb => by
    have lt := below b hb
    refine ⟨⟨?_, (fpb b hb).2⟩, ?_⟩
    · rw [← eH, upd_ne (Nat.ne_of_lt lt)]
      exact (fpb b hb).1
    · rw [hc, Heap.size_push, eD]
      exact Nat.lt_succ_of_lt lt
  have stc : tn 0 c.heap := T.keep _ _ _ stb fun b _ o e => by
    rw [hc]
    exact Heap.get?_push_of_some _ e
  have Id := block_start Ic blk nod fpc
  generalize eE : compEnvC sc (cellsFrom (c.heap.objs.size + 1) sc.names (cloFrom X.env.cells sc.names [])) c.heap.objs.size X.env = en at Id
  have pg : PG (X.blk c Hc sc en fp) t0 g := eE ▸ rg c Hc _ _ fp
  have pt : PTs (X.blk c Hc sc en fp) c0 tt := eE ▸ rt c Hc _ _ fp
  have pi1 : PI (X.blk c Hc sc en fp) t1 i1 wi1 := eE ▸ ri1 c Hc _ _ fp
  have pg1 : PG (X.blk c Hc sc en fp) t1 g1 := eE ▸ rg1 c Hc _ _ fp
  have pt1 : PTs (X.blk c Hc sc en fp) c1 tt1 := eE ▸ rt1 c Hc _ _ fp
  have pk : PE (X.blk c Hc sc en fp) ke tk := eE ▸ rk c Hc _ _ fp
  have pv' : PE (X.blk c Hc sc en fp) ve tv := eE ▸ rv c Hc _ _ fp
  have locs : en.locals = c.heap.objs.size := by rw [← eE]; rfl
  have quiet : ∀ b ∈ fp, Hc b = none := fun b hb => (fpc b hb).1.1
  generalize ed : ({ c with heap := pushCells (c.heap.push { cls := .type "dict", data := .dict #[] }) sc.names } : Shared) = d at Id
  have std : tn 0 d.heap := T.keep _ _ _ stc fun b _ o e => by
    rw [← ed]
    exact pushCells_keeps _ _ _ _ (Heap.get?_push_of_some _ e)
  have fpIn : ∀ {σ' : L2.St} {H' : Hp} {s' : Shared}, Inv (X.blk c Hc sc en fp) [] σ' H' s' → (∀ b ∈ fp, H' b = none) → ∀ b ∈ fp, FpOk (X.blk c Hc sc en fp) [] H' b := fun I' q b hb =>
    ⟨q b hb, (I'.ok.exf b hb).1, I'.ok.exfs b hb, .inl hb, fun x y e => (I'.ok.exf b hb).2 x y e, fun p hp => absurd (show p ∈ ([] : List (Addr × Obj)) ++ [] from hp) (by simp)⟩
  have goes : codeAny (model X.prog X.w) X.A (.compLoop (DC ke ve t0 i0 t1 i1 c0 c1 sc po) 0 (.ref it) (.ref D) en) (compPost (model X.prog X.w) X.A X.xe use Fi (.ref D) c.heap.objs.size) d := by
    refine loop_a (fold1 en) (fun n s' => ∃ j H', Inv (X.blk c Hc sc en fp) [] (wipe σ (own.map (·.2))) H' s' ∧ tn j s'.heap ∧ (∀ b ∈ fp, H' b = none) ∧ W j n H') (fun n s5 hs5 => ?_) n0 ⟨0, Hc, Id, std, quiet, w0⟩
    obtain ⟨j, H5, I5, st5, n5, w5⟩ := hs5
    rcases turns j n H5 w5 with ⟨over, qq⟩ | ⟨on, Nx, next, step⟩
    · refine thnF (T.done (X.blk c Hc sc en fp) rfl rfl rfl calm j [] s5 _ H5 (fun _ _ => False) I5 (fpIn I5 n5) st5 over) fun r s6 h6 => ?_
      obtain ⟨rfl, I6⟩ := h6
      have outer : Inv X pn σ H5 s6 := Ic.call' (ch := fp) I6.os I6.base I6.hok I6.bare fun b hb => by
        obtain ⟨⟨k0, k1, k2, k3, k4, k5⟩, _⟩ := fpc b hb
        exact ⟨k3, k1, k4, k5⟩
      have nL : H5 c.heap.objs.size = none := by
        rw [← locs]
        exact I6.free
      obtain ⟨m, hm, _⟩ := I6.loc
      have hm' : s6.heap.Ns c.heap.objs.size m := by
        rw [← locs]
        exact hm
      exact last D _ s6 m H5 outer qq hm' (Ic.fpOk (Nat.le_refl _) nL)
    · refine thnF (T.item (X.blk c Hc sc en fp) rfl rfl rfl calm j [] s5 _ H5 (fun _ _ => False) I5 (fpIn I5 n5) st5 on) fun r s6 h6 => ?_
      obtain ⟨u, rfl, h6⟩ := h6
      refine thnF h6 fun _ s7 h7 => ?_
      obtain ⟨x, H7, I7, r7, y7, st7, n7⟩ := h7
      refine thnF (pg.run _ s7 _ H7 x u _ (I7.pinned (fpIn I7 n7) (T.obj _ _ st7)) r7 (step x H7 y7)) fun _ s8 h8 => ?_
      obtain ⟨σ8, H8, I8, wip, q8⟩ := h8
      have over : ∀ {σ9 : L2.St} {s' : Shared} {H' : Hp}, Inv (X.blk c Hc sc en fp) ([] ++ pinsAt fp s7.heap) σ9 H' s' → (wipe σ (own.map (·.2))).length = σ9.length → (∀ (i : Nat) v, (wipe σ (own.map (·.2)))[i]? = some (some v) → σ9[i]? = some (some v)) → Nx H' →
          Back n (fun n s' => ∃ j H', Inv (X.blk c Hc sc en fp) [] (wipe σ (own.map (·.2))) H' s' ∧ tn j s'.heap ∧ (∀ b ∈ fp, H' b = none) ∧ W j n H') s' := by
        intro σ9 s' H' I' hl hk nx
        obtain ⟨m', lt, w'⟩ := next H' nx
        have pinned : ∀ b ∈ fp, ∀ o, s7.heap.get? b = some o → s'.heap.get? b = some o ∧ H' b = none := fun b hb o e => by
          have z := I'.pin (b, o) (List.mem_append_right _ (List.mem_append_right _ (mem_pinsAt hb e)))
          exact ⟨z.1, z.2.1⟩
        refine ⟨m', lt, j + 1, H', (I'.unpinned (pins := [])).weak hl hk, T.keep _ _ _ st7 fun b hb o e => (pinned b hb o e).1, fun b hb => ?_, w'⟩
        obtain ⟨o, e, _⟩ := T.obj _ _ st7 b hb
        exact (pinned b hb o e).2
      have len8 : (wipe σ (own.map (·.2))).length = σ8.length := by rw [← wip, wipe_length]
      have kno8 : ∀ (i : Nat) v, (wipe σ (own.map (·.2)))[i]? = some (some v) → σ8[i]? = some (some v) := fun i v e => by
        rw [← wip] at e
        exact (wipe_some e).1
      have kno9 : ∀ (i : Nat) v, (wipe σ (own.map (·.2)))[i]? = some (some v) → (wipe σ8 vs1)[i]? = some (some v) := fun i v e => by
        rw [← wip] at e
        obtain ⟨e1, e2⟩ := wipe_some e
        rw [wipe_out fun z => e2 (inn i z)]
        exact e1
      refine thnF (pt.run _ s8 σ8 H8 _ I8 q8) fun b s9 h9 => ?_
      obtain ⟨H9, I9, q9⟩ := h9
      cases b with
      | false =>
        rw [if_neg Bool.false_ne_true] at q9 ⊢
        exact over I9 len8 kno8 q9
      | true =>
        rw [if_pos rfl] at q9 ⊢
        refine thnF (pi1.run _ s9 σ8 H9 _ I9 q9) fun _ s10 h10 => thnF h10 fun _ s11 h11 => ?_
        obtain ⟨it1, fp1, tn1, J1, H11, rfl, I11, T1, st11, f11, W1, ⟨k1, w1⟩, turns1⟩ := h11
        have fpIn1 : ∀ {H' : Hp}, (∀ b ∈ fp1, H' b = none) → ∀ b ∈ fp1, FpOk (X.blk c Hc sc en fp) ([] ++ pinsAt fp s7.heap) H' b := fun hn b hb => ⟨hn b hb, (f11 b hb).2⟩
        have inner : codeAny (model X.prog X.w) X.A (.compLoop (DC ke ve t0 i0 t1 i1 c0 c1 sc po) 1 (.ref it1) (.ref D) en)
            (fun r s' => match r with
              | .ok _ => Back n (fun n s' => ∃ j H', Inv (X.blk c Hc sc en fp) [] (wipe σ (own.map (·.2))) H' s' ∧ tn j s'.heap ∧ (∀ b ∈ fp, H' b = none) ∧ W j n H') s'
              | .error _ => False) s11 := by
          refine loop_b (fun k s' => ∃ i H', Inv (X.blk c Hc sc en fp) ([] ++ pinsAt fp s7.heap) (wipe σ8 vs1) H' s' ∧ tn1 i s'.heap ∧ (∀ b ∈ fp1, H' b = none) ∧ W1 i k H') (fun k s12 hs12 => ?_) k1 ⟨0, H11, I11.weak (wipe_length _ _) (fun i v e => (wipe_some e).1), st11, fun b hb => (f11 b hb).1, w1⟩
          obtain ⟨i, H12, I12, st12, n12, w12⟩ := hs12
          rcases turns1 i k H12 w12 with ⟨over1, nx1⟩ | ⟨on1, Nx1, next1, step1⟩
          · refine thnF (T1.done (X.blk c Hc sc en fp) rfl rfl rfl calm i _ s12 (wipe σ8 vs1) H12 (fun _ _ => False) I12 (fpIn1 n12) st12 over1) fun r s13 h13 => ?_
            obtain ⟨rfl, I13⟩ := h13
            exact over I13 (len8.trans (wipe_length σ8 vs1).symm) kno9 nx1
          · refine thnF (T1.item (X.blk c Hc sc en fp) rfl rfl rfl calm i _ s12 (wipe σ8 vs1) H12 (fun _ _ => False) I12 (fpIn1 n12) st12 on1) fun r s13 h13 => ?_
            obtain ⟨u1, rfl, h13⟩ := h13
            refine thnF h13 fun _ s14 h14 => ?_
            obtain ⟨x1, H14, I14, r14, y14, st14, n14⟩ := h14
            refine thnF (pg1.run _ s14 (wipe σ8 vs1) H14 x1 u1 _ (I14.pinned (fpIn1 n14) (T1.obj _ _ st14)) r14 (step1 x1 H14 y14)) fun _ s15 h15 => ?_
            obtain ⟨σ15, H15, I15, wip1, q15⟩ := h15
            have over2 : ∀ {s' : Shared} {H' : Hp}, Inv (X.blk c Hc sc en fp) (([] ++ pinsAt fp s7.heap) ++ pinsAt fp1 s14.heap) σ15 H' s' → Nx1 H' →
                Back k (fun k s' => ∃ i H', Inv (X.blk c Hc sc en fp) ([] ++ pinsAt fp s7.heap) (wipe σ8 vs1) H' s' ∧ tn1 i s'.heap ∧ (∀ b ∈ fp1, H' b = none) ∧ W1 i k H') s' := by
              intro s' H' I' nx
              obtain ⟨m', lt, w'⟩ := next1 H' nx
              have pinned : ∀ b ∈ fp1, ∀ o, s14.heap.get? b = some o → s'.heap.get? b = some o ∧ H' b = none := fun b hb o e => by
                have z := I'.pin (b, o) (List.mem_append_right _ (List.mem_append_right _ (mem_pinsAt hb e)))
                exact ⟨z.1, z.2.1⟩
              refine ⟨m', lt, i + 1, H', I'.unpinned.weak ?_ ?_, T1.keep _ _ _ st14 fun b hb o e => (pinned b hb o e).1, fun b hb => ?_, w'⟩
              · rw [← wip1, wipe_length]
              · intro l v e
                rw [← wip1] at e
                exact (wipe_some e).1
              · obtain ⟨o, e, _⟩ := T1.obj _ _ st14 b hb
                exact (pinned b hb o e).2
            refine thnF (pt1.run _ s15 σ15 H15 _ I15 q15) fun b s16 h16 => ?_
            obtain ⟨H16, I16, q16⟩ := h16
            cases b with
            | false =>
              rw [if_neg Bool.false_ne_true] at q16 ⊢
              exact over2 I16 q16
            | true =>
              rw [if_pos rfl] at q16 ⊢
              refine thnF (pk.run _ s16 σ15 H16 _ I16 q16) fun _ s17 h17 => ?_
              obtain ⟨yk, H17, I17, r17, q17⟩ := h17
              refine thnF (pv'.run _ s17 σ15 H17 _ I17 q17) fun _ s18 h18 => ?_
              obtain ⟨yv, H18, I18, r18, Hf, put, nx⟩ := h18
              exact run_putT (X := X.blk c Hc sc en fp) hu I18 put r17 r18 fun s19 I19 => over2 I19 nx
        exact start_b inner (T1.self X.A 0 _ _ _ st11 inner)
  subst eE
  exact codeAny_compStart_dict goes (T.self X.A 0 _ _ _ std goes)
theorem pe_dt2 {ke ve t0 i0 t1 i1 : Expr} {c0 c1 : List Expr} {sc : Scope} {own : List (Str × Nat)} {vs1 : List Nat} {po : Pos} {wi wi1 : TI} {g g1 : TG} {tt tt1 : TT} {tk tv : TE} (hu : X.A.units + 1 < cLine) (calm : X.calm = true) (nod : X.N.Nodup) (walks : PI X t0 i0 wi) (blk : BlkOk X.N X.env.scope sc own) (inn : ∀ i ∈ vs1, i ∈ own.map (·.2))
    (rg : ∀ (s : Shared) (H : Hp) (C : Addr) (cl : List (Str × Addr)) (fp : List Addr), PG (X.blk s H sc (compEnvC sc cl C X.env) fp) t0 g) (rt : ∀ (s : Shared) (H : Hp) (C : Addr) (cl : List (Str × Addr)) (fp : List Addr), PTs (X.blk s H sc (compEnvC sc cl C X.env) fp) c0 tt)
    (ri1 : ∀ (s : Shared) (H : Hp) (C : Addr) (cl : List (Str × Addr)) (fp : List Addr), PI (X.blk s H sc (compEnvC sc cl C X.env) fp) t1 i1 wi1)
    (rg1 : ∀ (s : Shared) (H : Hp) (C : Addr) (cl : List (Str × Addr)) (fp : List Addr), PG (X.blk s H sc (compEnvC sc cl C X.env) fp) t1 g1) (rt1 : ∀ (s : Shared) (H : Hp) (C : Addr) (cl : List (Str × Addr)) (fp : List Addr), PTs (X.blk s H sc (compEnvC sc cl C X.env) fp) c1 tt1)
    (rk : ∀ (s : Shared) (H : Hp) (C : Addr) (cl : List (Str × Addr)) (fp : List Addr), PE (X.blk s H sc (compEnvC sc cl C X.env) fp) ke tk) (rv : ∀ (s : Shared) (H : Hp) (C : Addr) (cl : List (Str × Addr)) (fp : List Addr), PE (X.blk s H sc (compEnvC sc cl C X.env) fp) ve tv)
    (fold : ∀ x, foldedSetIterable i0 X.env x = pure x := by intro _; rfl) (fold1 : ∀ en x, foldedSetIterable i1 en x = pure x := by intro _ _; rfl) : PE X (.DictComp ke ve [⟨t0, i0, c0, 0⟩, ⟨t1, i1, c1, 0⟩] sc po) (tDt2 wi g tt wi1 g1 tt1 tk tv (own.map (·.2)) vs1) := by
  constructor
  intro pn s σ H Q I asks
  rw [arm_eval_DictComp]
  refine run_dt2 hu calm nod I walks blk inn rg rt ri1 rg1 rt1 rk rv fold fold1 asks fun D C s' m H' I' q hm f => ⟨m, hm, fun g2 sb => ?_⟩
  obtain ⟨k0, k1, k2, k3, k4, k5⟩ := f
  exact ⟨.ref D, H', I'.turned (t' := s'.toks) (fun b o hb e => (sb.2 b hb).trans e) k0 k1 k3 k4 k5, rfl, q⟩
end
end DR


namespace DR
open PySem PySem.Spec PyProof.Rows L2
/-! ### enumerate over a tuple -/
open AutoSeq1 (wpAny_loadPart') in
theorem meets_enumT (tt : Addr) (its : Array Value) (ot : Obj) (co : ot.cls = .type "tuple") (n : Nat) (dd : ot.data = .seq its n) :
    Meets (Builtin.«enumerate.__new__» ⟨[.type "enumerate", .ref tt], []⟩) (fun _ R t => t.heap.get? tt = some ot ∧
      R (.ok (.ret (.ref (t.heap.push { cls := .type "tuple_iterator", data := .fields #[.ref tt, .int 0 0] }).objs.size)))
        { t with heap := (t.heap.push { cls := .type "tuple_iterator", data := .fields #[.ref tt, .int 0 0] }).push { cls := .type "enumerate", data := .fields #[.none, .bool false, .ref t.heap.objs.size, rawInt 0, .none, .none] } }) :=
  .of_wp fun prog w A R t goal => by
    obtain ⟨hp, gg, dp, tk, os⟩ := t
    obtain ⟨get, goal⟩ := goal
    obtain ⟨c0, d0, dt0, s0⟩ := ot
    dsimp only at co dd
    subst co
    subst dd
    have below := sub_enumerate
    have isT : Heap.IsTuple (Shared.heap ⟨hp, gg, dp, tk, os⟩) tt its := ⟨_, get, rfl, n, rfl⟩
    wp_walk using wpAny_loadPart' get
    refine wpAny_stack_any fun st => wpAny_pure ?_
    split
    · rename_i c _ _ _ _ _
      cases (c == Value.type "enumerate") <;>
      · wp_walk using wpAny_loadPart' get, wpAny_pyIter_tuple isT
        exact ⟨_, rfl, goal⟩
    · wp_walk using wpAny_loadPart' get, wpAny_pyIter_tuple isT
      exact ⟨_, rfl, goal⟩
theorem call_enumT {prog : Program} {w : World} {A : Around} {E : Value → Shared → Prop} {t : Shared} {tt : Addr} {its : Array Value} {Q : Value → Shared → Prop} (isT : t.heap.IsTuple tt its)
    (go : ∀ g, IsEnum g (t.heap.objs.size + 1) t.heap.objs.size 0 .none → g.IsTupleIter t.heap.objs.size tt 0 → (∀ b o, t.heap.get? b = some o → g.get? b = some o) → Q (.ref (t.heap.objs.size + 1)) { t with heap := g }) :
    wpAny (model prog w) A (call (.type "enumerate") [.ref tt]) Q E t := by
  obtain ⟨ot, get, co, n, dd⟩ := isT
  refine callType_new F.called_enumerate (by decide) (F.typeCall_enumerate_1 _) (F.newCall_enumerate_1 _) (fun obj => F.args_object_init_2 obj _) F.entry_enumerate_new (meets_enumT tt its ot co n dd) ⟨get, ?_⟩
  let oi : Obj := { cls := .type "tuple_iterator", data := .fields #[.ref tt, .int 0 0] }
  have sz : (t.heap.push oi).objs.size = t.heap.objs.size + 1 := Heap.size_push ..
  have eq2 : (t.heap.push { cls := .type "tuple_iterator", data := .fields #[.ref tt, .int 0 0] }).objs.size = t.heap.objs.size + 1 := sz
  show _ ∧ _
  rw [eq2]
  have top : IsEnum ((t.heap.push oi).push { cls := .type "enumerate", data := .fields #[.none, .bool false, .ref t.heap.objs.size, rawInt 0, .none, .none] }) (t.heap.objs.size + 1) t.heap.objs.size 0 .none := by
    have z := Heap.get?_push_size (t.heap.push oi) (o := { cls := .type "enumerate", data := .fields #[.none, .bool false, .ref t.heap.objs.size, rawInt 0, .none, .none] }) rfl
    rw [sz] at z
    exact z
  refine ⟨⟨_, top, rfl⟩, go _ top ⟨oi, Heap.get?_push_of_some _ (Heap.get?_push_size _ rfl), rfl, rfl⟩ fun b o e => Heap.get?_push_of_some _ (Heap.get?_push_of_some _ e)⟩
/-- the tuple at a, each item in a new pair -/
def Itu (K : PySem.W.Frag) (a : Addr) : It where
  go := fun i H => ∃ (xs : List V) (x : V), SqT K H a xs ∧ xs[i]? = some x
  yld := fun i H v H' => ∃ T x, v = .ref T ∧ H T = none ∧ H' = upd H T (.tup [.int (i : Nat), x]) ∧ ∀ xs, SqT K H a xs → xs[i]? = some x
  stop := fun i H => ∃ xs : List V, SqT K H a xs ∧ xs.length ≤ i
theorem turn_enumT {P : Program} {w : World} {K : PySem.W.Frag} {elts : List Expr} {kk : Nat} {tpos : Pos} (a e it : Addr) (ae : a ≠ e) (ai : a ≠ it) :
    Turn P w K (.Tuple elts kk tpos) (Itu K a) [e, it] e (fun i h => (∃ old, IsEnum h e it ((i : Nat) : Int) old) ∧ h.IsTupleIter it a i ∧ e ≠ it) where
  mem := List.mem_cons_self ..
  obj := by
    intro i h st b hb
    obtain ⟨⟨old, he⟩, ⟨o, ho, hc, hd⟩, _⟩ := st
    rcases List.mem_cons.mp hb with rfl | hb
    · exact ⟨_, he, fun v q => nomatch q⟩
    · obtain rfl := List.mem_singleton.mp hb
      exact ⟨o, ho, fun v q => by rw [hd] at q; cases q⟩
  keep := by
    intro i h h' st k
    obtain ⟨⟨old, he⟩, hi, hne⟩ := st
    exact ⟨⟨old, k e (by simp) _ he⟩, hi.at fun o q => k it (by simp) o q, hne⟩
  item := by
    intro X hP hw hK hc i pins s σ H E I hf st hg
    subst hP hw hK
    obtain ⟨⟨old, he⟩, hit, hne⟩ := st
    obtain ⟨xs, x, hq, hx⟩ := hg
    obtain ⟨its, rv, p, hz⟩ := I.tuple hq
    obtain ⟨u, hu, ru⟩ := rv.get hx
    have elt : e < s.heap.objs.size := Heap.lt_size he
    have ilt : it < s.heap.objs.size := by
      obtain ⟨_, q, _⟩ := hit
      exact Heap.lt_size q
    have DD := Draws.tuple (prog := X.prog) (w := X.w) (A := X.A.in1) (I.ok.hd hc) it a ai its.toArray
    have hlen : i < its.toArray.size := by
      have : its[i]? = some u := hu
      have := (List.getElem?_eq_some_iff.mp this).1
      simpa using this
    have ef : e ∉ ([it, a] : List Addr) := by simp [hne, ae.symm]
    refine wpAny_pyNext_enum_itemD DD he ⟨hit, (show s.heap.IsTuple a its.toArray from p)⟩ hlen hne ef fun y h' tk hy ho hs' hT hsz hk => ?_
    obtain ⟨hit', _⟩ := hs'
    obtain rfl : y = u := by
      have q : its.toArray[i]? = some y := hy
      rw [List.getElem?_toArray, hu] at q
      exact (Option.some.inj q).symm
    refine ⟨_, rfl, wpAny_letOwnedTupleGo_enum (s := { s with heap := h', toks := tk + 1 }) ho fun h'' he' sb => ?_⟩
    have hT2 : h''.get? s.heap.objs.size = some { cls := .type "tuple", data := .seq #[.int i tk, y] } := (sb.2 _ (Nat.ne_of_gt elt)).trans hT
    have new : ObjOk X.prog X.w (upd H s.heap.objs.size (.tup [.int (i : Nat), x])) h'' s.heap.objs.size (.tup [.int (i : Nat), x]) :=
      ⟨by show 2 ≤ sizeLine; decide, [.int i tk, y], .cons ⟨_, rfl⟩ (.cons ru .nil), ⟨_, hT2, rfl, _, rfl⟩⟩
    have I1 : Inv X pins σ (upd H s.heap.objs.size (.tup [.int (i : Nat), x])) { s with heap := h'', toks := tk + 1 } :=
      I.turnedNew (ch := [e, it]) (fun b ob hb q => (sb.2 b (fun z => hb (by simp [z]))).trans (hk b ob (fun z => hb (by simp [z])) (fun z => hb (by simp [z])) q)) hf (Nat.le_refl _) new
    refine ⟨.ref s.heap.objs.size, _, I1, rfl, ⟨_, x, rfl, I.hok.fresh (Nat.le_refl _), rfl, fun ys hy => by rw [I.tuple_inj hy hq]; exact hx⟩, ⟨⟨y, ?_⟩, hit'.at fun o q => (sb.2 it (Ne.symm hne)).trans q, hne⟩, fun b hb => ?_⟩
    · rw [show ((i + 1 : Nat) : Int) = (i : Int) + 1 by omega]
      exact he'
    · have blt : b < s.heap.objs.size := by
        rcases List.mem_cons.mp hb with rfl | hb
        · exact elt
        · obtain rfl := List.mem_singleton.mp hb
          exact ilt
      rw [upd_ne (Nat.ne_of_lt blt)]
      exact (hf b hb).1
  done := by
    intro X hP hw hK hc i pins s σ H E I hf st hg
    subst hP hw hK
    obtain ⟨⟨old, he⟩, hit, hne⟩ := st
    obtain ⟨xs, hq, hx⟩ := hg
    obtain ⟨its, rv, p, hz⟩ := I.tuple hq
    obtain ⟨f0, f1, f2, f3, f4, f5⟩ := hf it (by simp)
    have hl := rv.length
    have T : s.heap.IsTuple a its.toArray := p
    have hn : wpAny (model X.prog X.w) X.A (pyNext (.ref e)) (fun r s1 => r = none ∧ Inv X pins σ H s1) E s := by
      have hT : s.TypeIs (.ref e) "enumerate" := ⟨_, he, rfl⟩
      unfold pyNext
      refine wpAny_bind (wpAny_attempt (wpAny_callSpecial?_slot (name := Str.ofString "__next__") hT F.slot_enumerate_next (wpAny_call_entry F.slot_enumerate_next hT F.entry_enumerate_next ?_ (F.args_enumerate_next_1 _))))
      show wpAny _ _ (field (.ref e) 2 >>= _) _ _ _
      refine wpAny_bind (wpAny_field he rfl (x := .ref it) rfl ?_)
      refine wpAny_bind (wpAny_nextOf_tuple_end (A := X.A.in1) (I.ok.hd hc) hit T (by simp; omega) fun h' x he' hx' => ?_)
      obtain ⟨o, ho, hcl⟩ := hx'
      refine wpAny_bind (wpAny_isInstance (T := "StopIteration") (b := true) ⟨o, ho, hcl⟩ isSubtype_stop ?_)
      exact wpAny_pure ⟨rfl, I.turned (t' := s.toks) (fun b o hb q => he' b o hb q) f0 f1 f3 f4 f5⟩
    exact hn
  self := fun A i s Q E st h => by
    obtain ⟨⟨_, he⟩, _⟩ := st
    exact wpAny_pyIter_enum he h
def iEnumT (K : PySem.W.Frag) (ta : TA) : TI := fun σ H R => ta σ H fun vs H1 => ∃ a xs, vs = [.ref a] ∧ SqT K H1 a xs ∧ R (Itu K a) H1
theorem pi_enumT {X : Cx} {e : Expr} {ta : TA} {p pos tpos : Pos} {elts : List Expr} {kk : Nat} (hg : Gl X "enumerate") (hm : X.mg "enumerate" = none) (ha : PA X [e] ta) (hs : starEach [e] X.env = [(false, eval e X.env)] := by rfl) :
    PI X (.Tuple elts kk tpos) (.Call (.Name "enumerate" p) [e] [] pos) (iEnumT X.K ta) := by
  constructor
  intro pins s σ H R I h
  refine Call_ (ld_blt I hg hm boot_enumerate (PyProof.Rows.callWith_type1 (thn (ha.run pos pins s σ H _ I h) fun us s1 got => ?_) hs rfl))
  obtain ⟨vs, H1, I1, r1, a, xs, rfl, hq, q⟩ := got
  cases r1 with
  | cons r rr =>
    cases rr
    cases r
    obtain ⟨its, rv, p', hz⟩ := I1.tuple hq
    have alt : a < s1.heap.objs.size := by
      obtain ⟨o, g, _⟩ := id p'
      exact Heap.lt_size g
    refine call_enumT (show s1.heap.IsTuple a its.toArray from p') fun h' he hit hk => wpAny_pyIter_enum he ?_
    refine ⟨s1.heap.objs.size + 1, [s1.heap.objs.size + 1, s1.heap.objs.size], _, _, H1, rfl, I1.kept (t' := s1.toks) hk, turn_enumT a (s1.heap.objs.size + 1) s1.heap.objs.size (Nat.ne_of_lt (Nat.lt_succ_of_lt alt)) (Nat.ne_of_lt alt), ⟨⟨.none, he⟩, hit, Nat.succ_ne_self _⟩, fun b hb => ?_, q⟩
    have hle : s1.heap.objs.size ≤ b := by
      rcases List.mem_cons.mp hb with rfl | hb
      · exact Nat.le_add_right _ _
      · obtain rfl := List.mem_singleton.mp hb
        exact Nat.le_refl _
    exact I1.fpOk hle (I1.hok.fresh hle)
theorem walk_enumT {K : PySem.W.Frag} {a : Addr} {xs : List V} : Walk (Itu K a) xs.length (fun H => SqT K H a xs) (YPair (fun i => some (.int (i : Nat))) (fun i => xs[i]?)) := by
  refine ⟨fun i _ hi q => ⟨xs, xs[i], q, by simp [hi]⟩, fun _ q => ⟨xs, q, Nat.le_refl _⟩, fun i H v H' _ q y => ?_⟩
  obtain ⟨T, x, h1, h2, h3, h4⟩ := y
  exact ⟨T, .int (i : Nat), x, h1, h2, h3, rfl, h4 xs q⟩
theorem dc_it {J : It} {n : Nat} {G : Hp → Prop} {Y : Nat → Hp → V → Hp → Prop} (w : Walk J n G Y) {g : TG} {tt : TT} {tk tv : TE} {vs : List Nat} {σ : L2.St} {H1 : Hp} {D : Addr} {Qd : Hp → Prop} (Pv : Nat → Hp → Prop) (h0 : Pv 0 (upd H1 D (.dK []))) (hG : ∀ i H, i ≤ n → Pv i H → G H)
    (hs : ∀ i x H H', i < n → Pv i H → Y i H x H' → g x (wipe σ vs) H' fun σ2 H2 => wipe σ2 vs = wipe σ vs ∧ tt σ2 H2 fun b H3 =>
      if b = true then tk σ2 H3 fun y H4 => tv σ2 H4 fun z H5 => ∃ kvs k, y = kV k ∧ H5 D = some (.dK kvs) ∧ kvs.length < sizeLine ∧ Pv (i + 1) (upd H5 D (.dK (putK kvs k z))) else Pv (i + 1) H3) (hd : ∀ H, Pv n H → Qd H) :
    ∃ W : Nat → Nat → Hp → Prop, (∃ m, W 0 m (upd H1 D (.dK []))) ∧ ∀ i m H, W i m H →
      (J.stop i H ∧ Qd H) ∨ (J.go i H ∧ ∃ Nx : Hp → Prop, (∀ H', Nx H' → ∃ m', m' < m ∧ W (i + 1) m' H') ∧ ∀ x H', J.yld i H x H' → g x (wipe σ vs) H' fun σ2 H2 => wipe σ2 vs = wipe σ vs ∧ tt σ2 H2 fun b H3 =>
        if b = true then tk σ2 H3 fun y H4 => tv σ2 H4 fun z H5 => ∃ kvs k, y = kV k ∧ H5 D = some (.dK kvs) ∧ kvs.length < sizeLine ∧ Nx (upd H5 D (.dK (putK kvs k z))) else Nx H3) := by
  refine ⟨fun i m H => m = n - i ∧ i ≤ n ∧ Pv i H, ⟨n, rfl, Nat.zero_le _, h0⟩, fun i m H hW => ?_⟩
  obtain ⟨rfl, hi, p⟩ := hW
  have q := hG i H hi p
  rcases Nat.lt_or_eq_of_le hi with lt | rfl
  · exact .inr ⟨w.goes i H lt q, Pv (i + 1), fun H' p' => ⟨n - (i + 1), by omega, rfl, lt, p'⟩, fun x H' y => hs i x H H' lt p (w.yields i H x H' lt q y)⟩
  · exact .inl ⟨w.stops H q, hd H p⟩
/-! ### == and != of data with any texts -/
def rEqP (K : PySem.W.Frag) : R2 := fun x y H Q => ∃ d e, Dp K H x d ∧ Dp K H y e ∧ d.plain = true ∧ e.plain = true ∧ d.depth ≤ 60 ∧ Q (.bl (PyData.eqv d e)) H
def rNeP (K : PySem.W.Frag) : R2 := fun x y H Q => ∃ d e, Dp K H x d ∧ Dp K H y e ∧ d.plain = true ∧ e.plain = true ∧ d.depth ≤ 60 ∧ Q (.bl (!PyData.eqv d e)) H
theorem op_eqP {X : Cx} {k : Nat} (hr : Room k X.A) : OpR X (compareOp .Eq) (rEqP X.K) := by
  intro pins s σ H x y v u Q I rx ry h
  obtain ⟨d, e, hd, he, sd, se, dp, q⟩ := h
  obtain ⟨as, r1⟩ := Dp.reads I d x v hd rx
  obtain ⟨bs, r2⟩ := Dp.reads I e y u he ry
  have hu := hr.units
  exact SeqAt.eq_plain r1 r2 sd se (by omega) ⟨.bl _, H, I, rfl, q⟩
theorem op_neP {X : Cx} {k : Nat} (hr : Room k X.A) : OpR X (compareOp .NotEq) (rNeP X.K) := by
  intro pins s σ H x y v u Q I rx ry h
  obtain ⟨d, e, hd, he, sd, se, dp, q⟩ := h
  obtain ⟨as, r1⟩ := Dp.reads I d x v hd rx
  obtain ⟨bs, r2⟩ := Dp.reads I e y u he ry
  have hu := hr.units
  exact SeqAt.ne_plain r1 r2 sd se (by omega) ⟨.bl _, H, I, rfl, q⟩
/-! ### x in c, data with any texts -/
def rInP (K : PySem.W.Frag) : R2 := fun x y H Q => ∃ d ds, Dp K H x d ∧ Dp K H y (.list ds) ∧ d.plain = true ∧ PyData.plainAll ds = true ∧ d.depth ≤ 60 ∧ Q (.bl (ds.any fun z => PyData.eqv z d)) H
theorem op_inP {X : Cx} {k : Nat} (hr : Room k X.A) : OpR X (compareOp .In) (rInP X.K) := by
  intro pins s σ H x y v u Q I rx ry h
  obtain ⟨d, ds, hd, he, sd, se, dp, q⟩ := h
  obtain ⟨as, r1⟩ := Dp.reads I d x v hd rx
  obtain ⟨bs, r2⟩ := Dp.reads I (.list ds) y u he ry
  have hu := hr.units
  exact SeqAt.in_list_data r2 r1 se sd (by
    have := Nat.min_le_right (PyData.depthAll ds) d.depth
    omega) ⟨.bl _, H, I, rfl, q⟩
/-- what is never reached -/
theorem ps_never {X : Cx} {st : Stmt} : PS X st (fun _ _ _ => False) := ⟨fun _ _ _ _ _ _ h => h.elim⟩
theorem passN {X : Cx} : Passes (L2.CX X.prog X.w) X E0 := fun _ _ _ _ _ _ _ c => by
  obtain ⟨_, _, _, _, _, _, _, _, _, _, _, _, y⟩ := c
  exact y.elim
end DR

namespace DR
open PySem PySem.Spec PyProof.Rows L2
/-! ### forms, names, words -/
theorem form_len (l : Mul) : (form l).length ≤ l.length := by
  unfold form
  rw [List.length_map, (List.mergeSort_perm _ _).length_eq]
  unfold keysN
  refine Nat.le_trans (List.length_filter_le _ _) ?_
  rw [List.length_map]
  exact Nat.le_refl _
theorem form_nod {l : Mul} (nd : NodK l) : NodK (form l) := by
  unfold NodK form
  rw [List.map_map]
  have e : (((keysN l).mergeSort le2).map ((fun x => x.1) ∘ fun u => (u, getI l u))) = (keysN l).mergeSort le2 := by
    conv => rhs; rw [← List.map_id ((keysN l).mergeSort le2)]
    rfl
  rw [e]
  exact (List.mergeSort_perm _ _).nodup_iff.mpr (keysN_nod nd)
theorem acc_nod (l : Mul) : NodK (accAll l) := (acc_go l [] List.nodup_nil).1
theorem form_keys {Pr : List Key → Prop} {l : Mul} (h : ∀ u ∈ l.map (·.1), Pr u) : ∀ u ∈ (form l).map (·.1), Pr u := fun u hu => by
  unfold form at hu
  rw [List.map_map] at hu
  obtain ⟨x, hx, rfl⟩ := List.mem_map.mp hu
  exact h x (List.mem_filter.mp (mem_sort hx)).1
theorem plusA_keys {Pr : List Key → Prop} : ∀ (m l : Mul), (∀ u ∈ m.map (·.1), Pr u) → (∀ u ∈ l.map (·.1), Pr u) → ∀ u ∈ (plusA l m).map (·.1), Pr u
  | [], l, _, hl => hl
  | q :: m, l, hm, hl => plusA_keys m (addP l q.1 q.2) (fun u hu => hm u (List.mem_cons_of_mem _ hu)) (addP_keys hl (hm q.1 (List.mem_cons_self ..)))
theorem getI_acc (l : Mul) (u : List Key) : getI (accAll l) u = lin (isU u) l := by
  rw [getI_lin (acc_nod l)]
  have := (acc_go l [] List.nodup_nil).2 (isU u)
  unfold accAll
  rw [this]
  simp [lin]
theorem form_form {l : Mul} (nd : NodK l) (nm : ∀ u ∈ l.map (·.1), NmU u) : form (form l) = form l :=
  form_eq (form_nod nd) nd (form_keys nm) fun u => by rw [getI_lin (form_nod nd), getI_lin nd, lin_form nd]
theorem acc_one {ps : Mul} (nd : NodK ps) (nm : ∀ u ∈ ps.map (·.1), NmU u) : form (accAll ps) = form ps :=
  form_eq (acc_nod ps) nd (accA_nm nm) fun u => by rw [getI_acc, getI_lin nd]
/-- a name -/
structure NmOk (z : Str) : Prop where
  nm : isNmS z = true
  sh : z.length ≤ 1000
/-- the place of a piece -/
def UkP (u : List Key) : Prop := ∃ z, u = [.inr sPiece, .inr z] ∧ NmOk z
theorem UkP.nmu {u : List Key} (h : UkP u) : NmU u := by
  obtain ⟨z, rfl, _⟩ := h
  exact ⟨sPiece, .inr z, rfl, by decide +kernel, ⟨fun ⟨i, e⟩ => absurd e (by intro z; cases z), fun e => absurd e (by decide +kernel)⟩⟩
theorem UkP.rd {u : List Key} (h : UkP u) : readUnk (unkD u) = some u := by
  obtain ⟨z, rfl, hz⟩ := h
  have r : rank sPiece = some 0 := by decide +kernel
  have n : ¬ sPiece = sIn := by decide +kernel
  show (rank sPiece).bind (fun _ => (ofKey sPiece (.str z)).map fun y => ([.inr sPiece, y] : List Key)) = _
  rw [r]
  show (ofKey sPiece (.str z)).map (fun y => ([.inr sPiece, y] : List Key)) = _
  unfold ofKey
  rw [if_neg n]
  show (if isNmS z = true then some (Sum.inr z : Key) else none).map _ = _
  rw [if_pos hz.nm]
  rfl
theorem UkP.shp {u : List Key} (h : UkP u) : shortP (unkD u) := by
  obtain ⟨z, rfl, hz⟩ := h
  exact ⟨by show sPiece.length ≤ 1000; decide +kernel, hz.sh⟩
/-- a word in its one form -/
structure WdOk (n : Int) (ps : Mul) : Prop where
  nod : NodK ps
  uk : ∀ u ∈ ps.map (·.1), UkP u
  one : form ps = ps
  few : ps.length ≤ 5
  sz : ∀ q ∈ ps, Sz q.2
  nz : Sz n
theorem WdOk.nm {n : Int} {ps : Mul} (h : WdOk n ps) : ∀ u ∈ ps.map (·.1), NmU u := fun u hu => (h.uk u hu).nmu
theorem readUnk_nm {x : PyData} {u : List Key} (h : readUnk x = some u) : NmU u := by
  have go : ∀ (k : Str) (o : PyData), unkOf k o = some u → NmU u := fun k o e => by
    unfold unkOf at e
    cases hr : rank k with
    | none => rw [hr] at e; cases e
    | some i =>
      rw [hr] at e
      have e' : (ofKey k o).map (fun z => [.inr k, z]) = some u := e
      cases hk : ofKey k o with
      | none => rw [hk] at e'; cases e'
      | some z =>
        rw [hk] at e'
        obtain rfl := Option.some.inj e'
        refine ⟨k, z, rfl, by rw [hr]; rfl, ?_⟩
        unfold ofKey at hk
        by_cases c : k = sIn
        · rw [if_pos c] at hk
          refine ⟨fun _ => c, fun _ => ?_⟩
          cases o with
          | int i =>
            dsimp only at hk
            split at hk
            · exact ⟨i, (Option.some.inj hk).symm⟩
            · cases hk
          | _ => cases hk
        · rw [if_neg c] at hk
          refine ⟨fun ⟨i, ei⟩ => ?_, fun z => absurd z c⟩
          cases o with
          | str s =>
            dsimp only at hk
            split at hk
            · rw [ei] at hk
              cases hk
            · cases hk
          | _ => cases hk
  unfold readUnk at h
  split at h
  · exact go _ _ h
  · exact go _ _ h
  · cases h
theorem parts_rd : ∀ (l acc : Mul), (∀ q ∈ l, UkP q.1) → readParts (l.map partD) acc = some (l.foldl (fun a q => addP a q.1 q.2) acc)
  | [], acc, _ => rfl
  | q :: l, acc, h => by
    have e : addPart acc (partD q) = some (addP acc q.1 q.2) := by
      show (readUnk (unkD q.1)).map _ = _
      rw [(h q (List.mem_cons_self ..)).rd]
      rfl
    show (addPart acc (partD q)).bind (readParts (l.map partD)) = _
    rw [e]
    exact parts_rd l _ fun q' hq => h q' (List.mem_cons_of_mem _ hq)
theorem WdOk.rd {n : Int} {ps : Mul} (h : WdOk n ps) : readSum (sumD n ps) = some (n, ps) := by
  show (readParts (ps.map partD) []).map (fun kvs => (n, form kvs)) = _
  rw [parts_rd ps [] fun q hq => h.uk q.1 (List.mem_map.mpr ⟨q, hq, rfl⟩)]
  show some (n, form (accAll ps)) = _
  rw [acc_one h.nod h.nm, h.one]
theorem WdOk.oks {n : Int} {ps : Mul} (h : WdOk n ps) : okSum (sumD n ps) := by
  intro n' q ds e1 e2
  obtain rfl : q = .tuple (ps.map partD) := by
    have := Option.some.inj (show some [PyData.int n, .tuple (ps.map partD)] = some [.int n', q] from e1)
    exact (List.cons.inj (List.cons.inj this).2).1.symm
  obtain rfl := Option.some.inj (show some (ps.map partD) = some ds from e2)
  have few := h.few
  refine ⟨by rw [List.length_map]; omega, fun p hp => ?_⟩
  obtain ⟨q, hq, rfl⟩ := List.mem_map.mp hp
  intro x m e
  obtain rfl : x = unkD q.1 := by
    have := Option.some.inj (show some [unkD q.1, .int q.2] = some [x, .int m] from e)
    exact (List.cons.inj this).1.symm
  exact ⟨(h.uk q.1 (List.mem_map.mpr ⟨q, hq, rfl⟩)).shp, fun u hu => readUnk_nm hu⟩
/-! ### read_address, worth_at -/
def spReadAddr (K : PySem.W.Frag) : Sp := fun vs H Q _ => ∃ (a : Addr) (z : Str) (n : Int), vs = [.ref a] ∧ H a = some (.tup [.str z, .int n]) ∧ NmOk z ∧ ∀ p H', Same H H' → H p = none → H' p = some (.tup [.str z, .int n]) → Q (.ref p) H'
abbrev sReadAddr : Stmt := topS 14
theorem scReadAddr : FnScope ["thing"] ["thing"] (defScope sReadAddr) := ⟨rfl, rfl, rfl, by decide +kernel, rfl, by decide +kernel, by decide +kernel⟩
/-- where the piece of an unknown lies -/
def plU (kvs : List (Key × V)) (u : List Key) : Int := match u with
  | [_, .inr z] => (match valV kvs (.inr z) with
    | some (.int i) => i
    | _ => 0)
  | _ => 0
def Placed (kvs : List (Key × V)) (ps : Mul) : Prop := ∀ q ∈ ps, ∃ z i, q.1 = [.inr sPiece, .inr z] ∧ valV kvs (.inr z) = some (.int i) ∧ Sz i ∧ Sz q.2
theorem plU_at {kvs : List (Key × V)} {k z : Key} {s : Str} {i : Int} (e : z = .inr s) (h : valV kvs (.inr s) = some (.int i)) : plU kvs [k, z] = i := by
  subst e
  show (match valV kvs (.inr s) with | some (.int i) => i | _ => 0) = i
  rw [h]
theorem lin_sum (F : List Key → Int) : ∀ l : Mul, (l.map fun q => q.2 * F q.1).sum = lin F l
  | [] => rfl
  | q :: l => by
    rw [List.map_cons, List.sum_cons, lin_sum F l]
    rfl
def spWorth (K : PySem.W.Frag) : Sp := fun vs H Q _ => ∃ (v : V) (n : Int) (ps : Mul) (d : Addr) (kvs : List (Key × V)), vs = [v, .ref d] ∧ SumT H v n ps ∧ H d = some (.dK kvs) ∧ Placed kvs ps ∧ ps.length ≤ 5 ∧ ∀ H', Same H H' → Q (.int (n + lin (plU kvs) ps)) H'
abbrev sWorth : Stmt := topS 21
theorem scWorth : FnScope ["one", "places", "unknown", "multiple"] ["one", "places"] (defScope sWorth) := ⟨rfl, rfl, rfl, by decide +kernel, rfl, by decide +kernel, by decide +kernel⟩
section
variable {P : Program} {w : World} {K : PySem.W.Frag} {mg : Str → Option Value} {base : Heap}
theorem ok_readAddr {f : Addr} {fd : FuncData} (F : Fun K "read_address" "read_address" sReadAddr f fd) (G1 : Has P w K mg base CX0 2 "is_row_of" ["thing", "many"] (spIsRowOf K)) (G2 : Has P w K mg base CX0 2 "is_name" ["thing"] (spIsName K)) (G3 : Has P w K mg base CX0 2 "is_integer" ["thing"] (spIsInt K)) : FnOk P w K mg base CX0 3 f fd ["thing"] (spReadAddr K) := by
  refine F.ok scReadAddr (fun vs H Q E h => ?_) (fun cdv A outer s H vs Q E hr h => ?_)
  · obtain ⟨a, z, n, rfl, _⟩ := h
    rfl
  · obtain ⟨a, z, n, rfl, ha, hz, q⟩ := h
    refine ⟨_, (pss_cons (ps_if (PW.pt (pw_or (pt_not (pt_val (pe_callH G1 hr (by rfl) pass0 (pa_cons (pv 0) (pa_cons pe_int pa_nil))))) (pw_or (pt_not (pt_val (pe_callH G2 hr (by rfl) pass0 (pa_cons (pe_ix ix_tup (pv 0) pe_int (fun _ _ => rfl)) pa_nil)))) (pw_or1 (pt_not (pt_val (pe_callH G3 hr (by rfl) pass0 (pa_cons (pe_ix ix_tup (pv 0) pe_int (fun _ _ => rfl)) pa_nil)))))))) (pss_one (ps_ret pe_non)) pss_nil)
      (pss_one (ps_ret (pe_tup (pa_cons (pe_ix ix_tup (pv 0) pe_int (fun _ _ => rfl)) (pa_cons (pe_ix ix_tup (pv 0) pe_int (fun _ _ => rfl)) pa_nil)))))), ?_⟩
    refine ⟨_, rfl, .ref a, .tuple [.str z, .int n], 2, rfl, .dat (.tup (SqT.of ha) (.cons (.str z) (.cons (.int n) .nil))), fun H1 s1 => ⟨_, rfl, ?_⟩⟩
    refine iteF ⟨_, rfl, a, _, _, _, rfl, rfl, SqT.of (s1 _ _ ha), at_of (i := 0) rfl, .str z, .str z, rfl, .dat (.str z), hz.sh, fun H2 s2 => ⟨_, rfl, ?_⟩⟩
    rw [show isNm (.str z) = true from hz.nm]
    have s12 := s1.trans s2
    refine iteF ⟨_, rfl, a, _, _, _, rfl, rfl, SqT.of (s12 _ _ ha), at_of (i := 1) rfl, .int n, .int n, rfl, .dat (.int n), _, rfl, ?_⟩
    refine iteF ⟨_, rfl, a, _, _, _, rfl, rfl, SqT.of (s12 _ _ ha), at_of (i := 0) rfl, _, rfl, a, _, _, _, rfl, rfl, SqT.of (s12 _ _ ha), at_of (i := 1) rfl, (by show 2 ≤ sizeLine; decide), fun p hp => ?_⟩
    refine q p _ (s12.trans (same_new hp)) ?_ upd_same
    cases e : H p with
    | none => rfl
    | some o => rw [s12 _ _ e] at hp; cases hp
theorem ok_worth {f : Addr} {fd : FuncData} (F : Fun K "worth_at" "worth_at" sWorth f fd) (TS : mg "sum" = none) : FnOk P w K mg base CX0 1 f fd ["one", "places"] (spWorth K) := by
  refine F.ok scWorth (fun vs H Q E h => ?_) (fun cdv A outer s H vs Q E hr h => ?_)
  · obtain ⟨v, n, ps, d, kvs, rfl, _⟩ := h
    rfl
  · obtain ⟨v, n, ps, d, kvs, rfl, ⟨a, b, xs, rfl, ha, hb, hxs⟩, hd, pl, few, q⟩ := h
    have hu := hu_of hr
    refine ⟨_, (pss_one (ps_ret (pe_op op_add (pe_ix ix_tup (pv 0) pe_int (fun _ _ => rfl)) (pe_callB (cr_sum rfl) (by rfl) TS (by decide +kernel) (pa_cons (pe_lc (own := [("unknown", 2), ("multiple", 3)]) (g := gTup K 2 (gCons (gName 2) (gCons (gName 3) gNil))) (tt := tYes) (te := tOp (rI (fun i j => Sz i ∧ Sz j) fun i j => .int (i * j)) (tVar 3) (tDGet (tVar 1) (tOp (rIxT K) (tVar 2) (tC (.int 1))))) rfl scWorth.nd (pi_tup (pe_ix ix_tup (pv 0) pe_int (fun _ _ => rfl))) (blkOk_by (N := ["one", "places", "unknown", "multiple"]) (sc := defScope sWorth) (by decide +kernel))
      (fun _ _ _ _ _ => (pg_tup rfl (pgs_cons (pg_name (i := 2) scWorth.nd rfl (.inl rfl)) (pgs_cons (pg_name (i := 3) scWorth.nd rfl (.inl rfl)) pgs_nil)))) (fun _ _ _ _ _ => pts_nil) (fun _ _ _ _ _ => (pe_op op_mulS (pv 3) (pe_dget hu (pv 1) (pe_ix ix_tup (pv 2) pe_int (fun _ _ => rfl)) (fun _ _ => rfl))))) pa_nil))))), ?_⟩
    have lx : xs.length = ps.length := hxs.length
    refine ⟨_, rfl, a, _, _, _, rfl, rfl, SqT.of ha, at_of (i := 0) rfl, _, rfl, a, _, _, _, rfl, rfl, SqT.of ha, at_of (i := 1) rfl, b, rfl, ⟨_, SqT.of hb⟩, fun D hD => ?_⟩
    refine lc_it (walk_tup (xs := xs)) (fun i H4 => (∀ c o, c ≠ D → H c = some o → H4 c = some o) ∧ H4 D = some (.lst (((ps.take i).map fun q => q.2 * plU kvs q.1).map V.int)))
      ⟨fun c o hc e => by rw [upd_ne hc]; exact e, upd_same⟩ (fun i H4 _ ⟨kp, _⟩ => SqT.of (kp _ _ (ne_of_none hb hD) hb)) ?_ ?_
    · rintro i x H4 H4' hi ⟨kp, hD4⟩ ⟨rfl, hx⟩
      obtain ⟨u, m, c, e, hum, rfl, hc, he⟩ := part_get hxs hx
      have hi2 : i < ps.length := (List.getElem?_eq_some_iff.mp hum).1
      have hc4 := kp _ _ (ne_of_none hc hD) hc
      have he4 := kp _ _ (ne_of_none he hD) he
      obtain ⟨z, j, ez, hv, sj, sm⟩ := pl _ (List.mem_of_getElem? hum)
      have ez : u = [.inr sPiece, .inr z] := ez
      subst ez
      refine ⟨c, _, rfl, SqT.of hc4, rfl, _, _, rfl, _, _, rfl, rfl, rfl, yes_go (iteT ⟨_, rfl, _, rfl, _, rfl, e, _, _, _, rfl, rfl, SqT.of he4, at_of (i := 1) rfl, d, .int j, rfl, ?_, m, j, rfl, rfl, ⟨sm, sj⟩, _, hD4, ?_, fun c' o hc' e' => ?_, ?_⟩)⟩
      · exact hv ▸ DGet.k (k := .inr z) (kp _ _ (ne_of_none hd hD) hd)
      · refine small1000 ?_
        rw [List.length_map, List.length_map, List.length_take]
        have := Nat.min_le_right i ps.length
        omega
      · rw [upd_ne hc']
        exact kp c' o hc' e'
      · rw [upd_same, List.take_add_one, hum]
        simp [plU_at (kvs := kvs) (k := .inr sPiece) rfl hv]
    · rintro H4 ⟨kp, hD4⟩
      rw [lx, List.take_length] at hD4
      refine ⟨D, _, rfl, SqL.of hD4, n, _, rfl, rfl, ?_⟩
      rw [lin_sum]
      exact q H4 fun c o e => kp c o (ne_of_none e hD) e
end
end DR

namespace DR
open PySem PySem.Spec PyProof.Rows L2
/-! ### pieces -/
abbrev Pc := Str × List (Int × Mul)
abbrev SumP (H : Hp) (v : V) (q : Int × Mul) : Prop := SumT H v q.1 q.2
def PieceT (H : Hp) (v : V) (q : Pc) : Prop := ∃ a b ws, v = .ref a ∧ H a = some (.tup [.str q.1, .str "code", .ref b]) ∧ H b = some (.tup ws) ∧ PySem.W.EachIs (SumP H) ws q.2
theorem pieceT_s {H H' : Hp} (e : TupS H H') {v : V} {q : Pc} (h : PieceT H v q) : PieceT H' v q := by
  obtain ⟨a, b, ws, h1, h2, h3, h4⟩ := h
  exact ⟨a, b, ws, h1, e _ _ h2, e _ _ h3, eachs_imp (fun _ _ => sumT_s e) h4⟩
structure PcOk (q : Pc) : Prop where
  nm : NmOk q.1
  few : q.2.length ≤ 10
  wd : ∀ w ∈ q.2, WdOk w.1 w.2
def dPc (q : Pc) : PyData := .tuple [.str q.1, .str "code", .tuple (q.2.map fun w => sumD w.1 w.2)]
theorem sums_dp {K : PySem.W.Frag} {H : Hp} : ∀ {ws : List V} {l : List (Int × Mul)}, PySem.W.EachIs (SumP H) ws l → DpAll K H ws (l.map fun w => sumD w.1 w.2)
  | _, _, .nil => .nil
  | _, _, .cons h t => .cons (sumT_dp h) (sums_dp t)
theorem piece_dp {K : PySem.W.Frag} {H : Hp} {v : V} {q : Pc} (h : PieceT H v q) : Dp K H v (dPc q) := by
  obtain ⟨a, b, ws, rfl, h2, h3, h4⟩ := h
  exact .tup (SqT.of h2) (.cons (.str _) (.cons (.str _) (.cons (.tup (SqT.of h3) (sums_dp h4)) .nil)))
theorem plain_sums : ∀ {l : List (Int × Mul)}, (∀ w ∈ l, WdOk w.1 w.2) → PyData.plainAll (l.map fun w => sumD w.1 w.2) = true
  | [], _ => rfl
  | w :: l, h => by
    have h1 := plain_sums (l := l) fun w' hw => h w' (List.mem_cons_of_mem _ hw)
    have h2 : PyData.plainAll (w.2.map partD) = true := by
      have nm := (h w (List.mem_cons_self ..)).nm
      have go : ∀ ps : Mul, (∀ u ∈ ps.map (·.1), NmU u) → PyData.plainAll (ps.map partD) = true := fun ps => by
        induction ps with
        | nil => exact fun _ => rfl
        | cons q l ih =>
          intro hn
          have a1 := plain_unkD (hn q.1 (List.mem_cons_self ..))
          have a2 := ih fun u hu => hn u (List.mem_cons_of_mem _ hu)
          rw [List.map_cons]
          simp [PyData.plainAll, partD, PyData.plain, a1, a2]
      exact go w.2 nm
    have h3 : PyData.plain (sumD w.1 w.2) = true := by simp [sumD, PyData.plainAll, PyData.plain, h2]
    rw [List.map_cons]
    show (_ && _) = true
    rw [h3, h1]
    rfl
theorem no_none : ∀ l : List (Int × Mul), ((l.map fun w => sumD w.1 w.2).any fun z => PyData.eqv z .none) = false
  | [] => rfl
  | w :: l => by
    rw [List.map_cons, List.any_cons, no_none l]
    rfl
def spReadPc (K : PySem.W.Frag) : Sp := fun vs H Q _ => ∃ v q, vs = [v] ∧ PieceT H v q ∧ PcOk q ∧ ∀ v' H', Same H H' → PieceT H' v' q → Q v' H'
abbrev sReadPc : Stmt := topS 23
theorem scReadPc : FnScope ["thing", "p", "kind", "words", "sums", "word"] ["thing"] (defScope sReadPc) := ⟨rfl, rfl, rfl, by decide +kernel, rfl, by decide +kernel, by decide +kernel⟩
structure PcsOk (pcs : List Pc) : Prop where
  each : ∀ q ∈ pcs, PcOk q
  nod : (pcs.map (·.1)).Nodup
  few : pcs.length ≤ 10
  own : ∀ q ∈ pcs, ∀ w ∈ q.2, ∀ u ∈ w.2.map (·.1), ∃ z ∈ pcs.map (·.1), u = [.inr sPiece, .inr z]
def spReadPcs (K : PySem.W.Frag) : Sp := fun vs H Q _ => ∃ (l : Addr) (xs : List V) (pcs : List Pc), vs = [.ref l] ∧ H l = some (.lst xs) ∧ PySem.W.EachIs (PieceT H) xs pcs ∧ PcsOk pcs ∧ ∀ d ys H', Same H H' → H d = none → H' d = some (.lst ys) → PySem.W.EachIs (PieceT H') ys pcs → Q (.ref d) H'
abbrev sReadPcs : Stmt := topS 24
theorem scReadPcs : FnScope ["pieces", "found", "stood", "index", "thing", "piece"] ["pieces"] (defScope sReadPcs) := ⟨rfl, rfl, rfl, by decide +kernel, rfl, by decide +kernel, by decide +kernel⟩
theorem none_of {H H' : Hp} {b : Addr} (s : Same H H') (h : H' b = none) : H b = none := by
  cases e : H b with
  | none => rfl
  | some o => rw [s _ _ e] at h; cases h
/-- names that stood, as the keys of a dict -/
def stoodD (zs : List Str) : List (Key × V) := zs.map fun z => (.inr z, V.bl true)
theorem stood_val (zs : List Str) (z : Str) : (valV (stoodD zs) (.inr z)).isSome = decide (z ∈ zs) := by
  unfold valV stoodD
  induction zs with
  | nil => rfl
  | cons y zs ih =>
    rw [List.map_cons]
    by_cases c : y = z
    · subst c
      rw [List.find?_cons_of_pos (by simp)]
      simp
    · rw [List.find?_cons_of_neg (by simp [c])]
      rw [ih]
      simp [Ne.symm c]
theorem stood_put (zs : List Str) {z : Str} (h : z ∉ zs) : putK (stoodD zs) (.inr z) (.bl true) = stoodD (zs ++ [z]) := by
  unfold putK stoodD
  rw [if_neg]
  · rw [List.map_append]
    rfl
  · intro c
    obtain ⟨p, hp, e⟩ := List.any_eq_true.mp c
    obtain ⟨y, hy, rfl⟩ := List.mem_map.mp hp
    have : y = z := Sum.inr.inj (of_decide_eq_true e)
    exact h (this ▸ hy)
section
variable {P : Program} {w : World} {K : PySem.W.Frag} {mg : Str → Option Value} {base : Heap}
theorem ok_readPc {f : Addr} {fd : FuncData} (F : Fun K "read_piece" "read_piece" sReadPc f fd) (T : Bi mg) (G1 : Has P w K mg base CX0 4 "is_row_of" ["thing", "many"] (spIsRowOf K)) (G2 : Has P w K mg base CX0 4 "is_name" ["thing"] (spIsName K)) (G3 : Has P w K mg base CX0 4 "is_row" ["thing"] (spIsRow K)) (G4 : Has P w K mg base CX0 4 "read_sum" ["thing"] (spReadSum K)) : FnOk P w K mg base CX0 5 f fd ["thing"] (spReadPc K) := by
  refine F.ok scReadPc (fun vs H Q E h => ?_) (fun cdv A outer s H vs Q E hr h => ?_)
  · obtain ⟨v, q, rfl, _⟩ := h
    rfl
  · obtain ⟨v, pc, rfl, hv, ok, q⟩ := h
    refine ⟨_, (pss_cons (ps_if (pt_not (pt_val (pe_callH G1 hr (by rfl) pass0 (pa_cons (pv 0) (pa_cons pe_int pa_nil))))) (pss_one (ps_ret pe_non)) pss_nil)
      (pss_cons (ps_asg (pv 0) (pg_tup rfl (pgs_cons (pg_name (i := 1) scReadPc.nd rfl (.inl rfl)) (pgs_cons (pg_name (i := 2) scReadPc.nd rfl (.inl rfl)) (pgs_cons (pg_name (i := 3) scReadPc.nd rfl (.inl rfl)) pgs_nil)))))
      (pss_cons (ps_if (PW.pt (pw_or (pt_not (pt_val (pe_callH G2 hr (by rfl) pass0 (pa_cons (pv 1) pa_nil)))) (pw_or (pt_not (pt_val (pe_callB call_isi (by rfl) T.isinstance (by decide +kernel) (pa_cons (pv 2) (pa_cons (pe_bltn (v := .ty "str") (by rfl) T.str (by decide +kernel) rfl) pa_nil))))) (pw_or (pt_cmpR op_notIn_seq (pv 2) (pe_tup (pa_cons pe_str (pa_cons pe_str pa_nil))) (by rfl)) (pw_or1 (pt_not (pt_val (pe_callH G3 hr (by rfl) pass0 (pa_cons (pv 3) pa_nil))))))))) (pss_one (ps_ret pe_non)) pss_nil)
      (pss_cons (ps_setLc (i := 4) (own := [("word", 5)]) (g := gName 5) (tt := tYes) (te := tCall (spReadSum K) [] E0 (tCons (tVar 5) tNil)) rfl scReadPc.nd rfl rfl (sw_true rfl rfl rfl (by decide +kernel)) (pi_tup (pv 3)) (blkOk_by (N := ["thing", "p", "kind", "words", "sums", "word"]) (sc := defScope sReadPc) (by decide +kernel)) (fun _ _ _ _ _ => pg_name (i := 5) scReadPc.nd rfl (.inl rfl)) (fun _ _ _ _ _ => pts_nil) (fun _ _ _ _ _ => (pe_callH G4 hr (by rfl) pass0 (pa_cons (pv 5) pa_nil))))
      (pss_cons (ps_if (pt_cmpR (op_inP hr) pe_non (pv 4) (by rfl)) (pss_one (ps_ret pe_non)) pss_nil)
      (pss_one (ps_ret (pe_tup (pa_cons (pv 1) (pa_cons (pv 2) (pa_cons (pe_callTy call_tuple_of (by rfl) T.tuple (by decide +kernel) (pa_cons (pv 4) pa_nil)) pa_nil))))))))))), ?_⟩
    have th : Th K H v (dPc pc) := .dat (piece_dp hv)
    refine ⟨_, rfl, v, _, 3, rfl, th, fun H1 s1 => ⟨_, rfl, ?_⟩⟩
    have hv1 := pieceT_s (TupS.of s1) hv
    obtain ⟨a, b, ws, rfl, ha, hb, hws⟩ := id hv1
    have few := ok.few
    have lw : ws.length = pc.2.length := hws.length
    refine iteF ⟨_, rfl, a, _, rfl, SqT.of ha, rfl, _, _, rfl, _, _, rfl, _, _, rfl, rfl, ?_⟩
    refine ⟨_, rfl, .str pc.1, .str pc.1, rfl, .dat (.str _), ok.nm.sh, fun H2 s2 => ⟨_, rfl, ?_⟩⟩
    rw [show isNm (.str pc.1) = true from ok.nm.nm]
    refine iteF ⟨_, rfl, .str "code", _, _, _, _, rfl, .ty "str", th_ty (d := .str "code") (.dat (.str _)), kit_str _, _, rfl, ?_⟩
    refine iteF ⟨_, rfl, (by show 2 ≤ sizeLine; decide), fun p3 n3 => ⟨p3, _, rfl, .inr (SqT.of upd_same), rfl, rfl, _, rfl, ?_⟩⟩
    have s3 := same_new (o := .tup [V.str "code", V.str "data"]) n3
    have z : inV (.str "code") [V.str "code", V.str "data"] = true := by decide +kernel
    have s13 := s2.trans s3
    generalize upd H2 p3 (.tup [V.str "code", V.str "data"]) = H3 at s13 ⊢
    show (if (!inV (.str "code") [V.str "code", V.str "data"]) = true then _ else _)
    rw [z]
    refine iteF ⟨_, rfl, .ref b, .tuple (pc.2.map fun w => sumD w.1 w.2), rfl, .dat (.tup (SqT.of (s13 _ _ hb)) (sums_dp (eachs_imp (fun _ _ => sumT_s (TupS.of s13)) hws))), fun H4 s4 => ⟨_, rfl, ?_⟩⟩
    have s14 := s13.trans s4
    have hb4 := s14 _ _ hb
    have hws4 := eachs_imp (fun _ _ => sumT_s (TupS.of s14)) hws
    refine iteF ⟨_, rfl, b, rfl, ⟨_, SqT.of hb4⟩, fun D hD => ?_⟩
    refine lc_it (walk_tup (xs := ws)) (fun i H5 => (∀ c o, c ≠ D → H4 c = some o → H5 c = some o) ∧ ∃ zs, H5 D = some (.lst zs) ∧ zs.length = i ∧ PySem.W.EachIs (SumP H5) zs (pc.2.take i))
      ⟨fun c o hc e => by rw [upd_ne hc]; exact e, [], upd_same, rfl, .nil⟩ (fun i H5 _ ⟨kp, _⟩ => SqT.of (kp _ _ (ne_of_none hb4 hD) hb4)) ?_ ?_
    · rintro i x H5 H5' hi ⟨kp, zs, hD5, hl, hz⟩ ⟨rfl, hx⟩
      obtain ⟨wd, hw, hsum⟩ := eachs_get hws4 hx
      have wok := ok.wd wd (List.mem_of_getElem? hw)
      have hs5 : SumT H5' x wd.1 wd.2 := sumT_s (fun c xs e => kp _ _ (ne_of_none e hD) e) hsum
      refine ⟨rfl, yes_go (iteT ⟨_, rfl, x, sumD wd.1 wd.2, rfl, .dat (sumT_dp hs5), wok.oks, fun v' H6 s6 hv' => ?_⟩)⟩
      rw [wok.rd] at hv'
      have hv' : SumT H6 v' wd.1 wd.2 := hv'
      have hD6 := s6 _ _ hD5
      have ts := TupS.put (o' := .lst (zs ++ [v'])) hD6 (by intro xs z; cases z)
      refine ⟨zs, hD6, small1000 (by have := hws4.length; omega), fun c o hc e => by rw [upd_ne hc]; exact s6 _ _ (kp c o hc e), zs ++ [v'], upd_same, by simp [hl], ?_⟩
      rw [List.take_add_one, hw]
      exact eachs_snoc (R := SumP _) (sumT_s ts hv') (eachs_imp (fun _ _ => sumT_s ((TupS.of s6).trans ts)) hz)
    · rintro H5 ⟨kp, zs, hD5, hl, hz⟩
      rw [lw, List.take_length] at hz
      have s5 : Same H4 H5 := fun c o e => kp c o (ne_of_none e hD) e
      have lz : zs.length = pc.2.length := hz.length
      refine ⟨_, rfl, .none, _, .non, .lst (SqL.of hD5) (sums_dp hz), rfl, plain_sums ok.wd, by simp [PyData.depth], _, rfl, ?_⟩
      rw [no_none]
      refine iteF ⟨_, rfl, _, rfl, _, rfl, D, zs, rfl, .inl ⟨SqL.of hD5, fun p6 n6 => ⟨(by show 3 ≤ sizeLine; decide), fun p7 n7 => ?_⟩⟩⟩
      have s6 := same_new (o := .tup zs) n6
      have s7 := same_new (o := .tup [V.str pc.1, V.str "code", V.ref p6]) n7
      exact q _ _ ((((s1.trans s14).trans s5).trans s6).trans s7) ⟨p7, p6, zs, rfl, upd_same, s7 _ _ upd_same, eachs_imp (fun _ _ => sumT_s (TupS.of (s6.trans s7))) hz⟩
theorem ok_readPcs {f : Addr} {fd : FuncData} (F : Fun K "read_pieces" "read_pieces" sReadPcs f fd) (T : Bi mg) (G1 : Has P w K mg base CX0 5 "is_row" ["thing"] (spIsRow K)) (G2 : Has P w K mg base CX0 5 "read_piece" ["thing"] (spReadPc K)) : FnOk P w K mg base CX0 6 f fd ["pieces"] (spReadPcs K) := by
  refine F.ok scReadPcs (fun vs H Q E h => ?_) (fun cdv A outer s H vs Q E hr h => ?_)
  · obtain ⟨l, xs, pcs, rfl, _⟩ := h
    rfl
  · obtain ⟨l, xs, pcs, rfl, hl, hxs, ok, q⟩ := h
    have hu := hu_of hr
    refine ⟨_, (pss_cons (ps_if (pt_not (pt_val (pe_callH G1 hr (by rfl) pass0 (pa_cons (pv 0) pa_nil)))) (pss_one ps_never) pss_nil)
      (pss_cons (ps_set (i := 1) scReadPcs.nd rfl (.inl rfl) (pe_lst pa_nil))
      (pss_cons (ps_set (i := 2) scReadPcs.nd rfl (.inl rfl) (pe_dnewK))
      (pss_cons (ps_for PassesOwn.never rfl (pi_enum (by rfl) T.enumerate (pa_cons (pv 0) pa_nil)) (pg_tup rfl (pgs_cons (pg_name (i := 3) scReadPcs.nd rfl (.inl rfl)) (pgs_cons (pg_name (i := 4) scReadPcs.nd rfl (.inl rfl)) pgs_nil))) (pss_cons (ps_set (i := 5) scReadPcs.nd rfl (.inl rfl) (pe_callH G2 hr (by rfl) pass0 (pa_cons (pv 4) pa_nil)))
      (pss_cons (ps_if (PW.pt (pw_or (pt_cmpR op_isN (pv 5) pe_non (nomark _)) (pw_or1 (pt_cmp (pc_din hu (pe_ix ix_tup (pv 5) pe_int (fun _ _ => rfl)) (pv 2)) (by rfl))))) (pss_one ps_never) pss_nil)
      (pss_cons (ps_dput hu (pv 2) (pe_ix ix_tup (pv 5) pe_int (fun _ _ => rfl)) pe_bl rfl)
      (pss_one (ps_expr (pe_bm PySem.F.plainAttrs_list PySem.F.slot_list_append PySem.F.type_list_append mt_append (pv 1) (pa_cons (pv 5) pa_nil))))))))
      (pss_one (ps_ret (pv 1))))))), ?_⟩
    have few := ok.few
    have lx : xs.length = pcs.length := hxs.length
    have thl : Th K H (.ref l) (.list (pcs.map dPc)) := .dat (.lst (SqL.of hl) (by
      have go : ∀ {as : List V} {bs : List Pc}, PySem.W.EachIs (PieceT H) as bs → DpAll K H as (bs.map dPc) := fun h => by
        induction h with
        | nil => exact .nil
        | cons a t ih => exact .cons (piece_dp a) ih
      exact go hxs))
    refine ⟨_, rfl, .ref l, _, rfl, thl, fun H1 s1 => ⟨_, rfl, iteF ⟨(by show 0 ≤ sizeLine; decide), fun d nd => fun st ns => ?_⟩⟩⟩
    have sd := same_new (o := .lst []) nd
    have ss := same_new (o := .dK []) ns
    have dH : H d = none := none_of s1 nd
    have stH : H st = none := none_of (s1.trans sd) ns
    have dst : d ≠ st := fun z => by
      rw [← z, upd_same] at ns
      cases ns
    have S := (s1.trans sd).trans ss
    have hd0 : upd (upd H1 d (.lst [])) st (.dK []) d = some (.lst []) := ss _ _ upd_same
    have hst0 : upd (upd H1 d (.lst [])) st (.dK []) st = some (.dK []) := upd_same
    generalize upd (upd H1 d (.lst [])) st (.dK []) = H2 at S hd0 hst0 ⊢
    refine ⟨_, rfl, l, xs, rfl, SqL.of (S _ _ hl), ?_⟩
    refine for_it walk_enum (fun i σ H4 => ∃ (w3 w4 w5 : Option V) (ys : List V), σ = [some (.ref l), some (.ref d), some (.ref st), w3, w4, w5] ∧ Same H H4 ∧ H4 d = some (.lst ys) ∧ H4 st = some (.dK (stoodD ((pcs.take i).map (·.1)))) ∧ PySem.W.EachIs (PieceT H4) ys (pcs.take i))
      ⟨none, none, none, [], rfl, S, hd0, hst0, .nil⟩ (fun i σ H4 _ ⟨_, _, _, _, _, s4, _⟩ => SqL.of (s4 _ _ hl)) ?_ ?_
    · rintro i x σ H4 H4' hi ⟨w3, w4, w5, ys, rfl, s4, hd4, hs4, hys⟩ ⟨TT, y1, y2, rfl, hT, rfl, hy1, hy2⟩
      cases hy1
      have hy2 : xs[i]? = some y2 := hy2
      obtain ⟨pc, hpc, hp⟩ := eachs_get hxs hy2
      have pok := ok.each pc (List.mem_of_getElem? hpc)
      have i2 : i < pcs.length := (List.getElem?_eq_some_iff.mp hpc).1
      have sT := same_new (o := .tup [V.int (i : Nat), y2]) hT
      have hT5 : upd H4 TT (.tup [V.int (i : Nat), y2]) TT = some (.tup [V.int (i : Nat), y2]) := upd_same
      generalize upd H4 TT (.tup [V.int (i : Nat), y2]) = H5 at sT hT5 ⊢
      have s5 := s4.trans sT
      refine ⟨TT, _, rfl, SqT.of hT5, rfl, _, _, rfl, _, _, rfl, rfl, ?_⟩
      refine ⟨_, rfl, y2, pc, rfl, pieceT_s (TupS.of s5) hp, pok, fun v6 H6 s6 hv6 => ?_⟩
      obtain ⟨a6, b6, ws6, rfl, ha6, hb6, hw6⟩ := id hv6
      have hd6 := s6 _ _ (sT _ _ hd4)
      have hs6 := s6 _ _ (sT _ _ hs4)
      have nin : pc.1 ∉ (pcs.take i).map (·.1) := by
        rw [List.map_take]
        exact take_not ok.nod (by rw [List.getElem?_map, hpc]; rfl)
      refine ⟨_, rfl, rfl, _, rfl, ?_⟩
      refine iteF ⟨_, rfl, a6, _, _, _, rfl, rfl, SqT.of ha6, at_of (i := 0) rfl, _, rfl, st, _, rfl, DGet.k (k := .inr pc.1) hs6, _, rfl, ?_⟩
      rw [stood_val, decide_eq_false nin]
      refine iteF ⟨_, rfl, _, rfl, a6, _, _, _, rfl, rfl, SqT.of ha6, at_of (i := 0) rfl, st, _, rfl, DPut.k (k := .inr pc.1) hs6 (small1000 (by unfold stoodD; rw [List.length_map, List.length_map, List.length_take]; omega)), ?_⟩
      rw [stood_put _ nin]
      have ts1 : TupS H6 (upd H6 st (.dK (stoodD ((pcs.take i).map (·.1) ++ [pc.1])))) := TupS.put hs6 (by intro xs z; cases z)
      have hd7 : upd H6 st (.dK (stoodD ((pcs.take i).map (·.1) ++ [pc.1]))) d = some (.lst ys) := by rw [upd_ne dst]; exact hd6
      have hs7 : upd H6 st (.dK (stoodD ((pcs.take i).map (·.1) ++ [pc.1]))) st = some (.dK (stoodD ((pcs.take i).map (·.1) ++ [pc.1]))) := upd_same
      have k7 : ∀ b x, b ≠ st → H6 b = some x → upd H6 st (.dK (stoodD ((pcs.take i).map (·.1) ++ [pc.1]))) b = some x := fun b x hb e => by rw [upd_ne hb]; exact e
      generalize upd H6 st (.dK (stoodD ((pcs.take i).map (·.1) ++ [pc.1]))) = H7 at ts1 hd7 hs7 k7 ⊢
      have ts2 : TupS H7 (upd H7 d (.lst (ys ++ [.ref a6]))) := TupS.put hd7 (by intro xs z; cases z)
      have ly := hys.length
      rw [List.length_take] at ly
      refine ⟨_, rfl, .inl ⟨rfl, _, SqL.of hd7⟩, _, rfl, d, ys, .ref a6, rfl, rfl, hd7, small1000 (by omega), ?_⟩
      refine ⟨_, _, _, ys ++ [.ref a6], rfl, fun b x e => ?_, upd_same, ?_, ?_⟩
      · rw [upd_ne (ne_of_none e dH)]
        exact k7 _ _ (ne_of_none e stH) (s6 _ _ (s5 _ _ e))
      · rw [upd_ne dst.symm, hs7, List.take_add_one, hpc, List.map_append]
        rfl
      · rw [List.take_add_one, hpc]
        exact eachs_snoc (R := PieceT _) (pieceT_s (ts1.trans ts2) hv6) (eachs_imp (fun _ _ => pieceT_s (((TupS.of (sT.trans s6)).trans ts1).trans ts2)) hys)
    · rintro σ H4 ⟨w3, w4, w5, ys, rfl, s4, hd4, hs4, hys⟩
      rw [lx, List.take_length] at hys
      exact ⟨_, rfl, q d ys H4 s4 dH hd4 hys⟩
end
end DR

namespace DR
open PySem PySem.Spec PyProof.Rows L2
/-! ### the words and the kinds of pieces -/
theorem wk_it {J : It} {n : Nat} {G : Hp → Prop} {Y : Nat → Hp → V → Hp → Prop} (w : Walk J n G Y) {T : (Hp → Prop) → V → Hp → Prop} {H0 : Hp} {Qd : Hp → Prop} (Pv : Nat → Hp → Prop) (zero : Pv 0 H0) (stand : ∀ i H, i ≤ n → Pv i H → G H)
    (turn : ∀ i x H H', i < n → Pv i H → Y i H x H' → T (Pv (i + 1)) x H') (last : ∀ H, Pv n H → Qd H) :
    ∃ W : Nat → Nat → Hp → Prop, (∃ m, W 0 m H0) ∧ ∀ j m Hb, W j m Hb → (J.stop j Hb ∧ Qd Hb) ∨ (J.go j Hb ∧ ∃ Nx : Hp → Prop, (∀ Hc, Nx Hc → ∃ n', n' < m ∧ W (j + 1) n' Hc) ∧ ∀ x Hc, J.yld j Hb x Hc → T Nx x Hc) := by
  refine ⟨fun j m Hb => m = n - j ∧ j ≤ n ∧ Pv j Hb, ⟨n, rfl, Nat.zero_le _, zero⟩, ?_⟩
  rintro j m Hb ⟨rfl, le, p⟩
  have q := stand j Hb le p
  rcases Nat.lt_or_eq_of_le le with lt | rfl
  · exact .inr ⟨w.goes j Hb lt q, Pv (j + 1), fun Hc p' => ⟨n - (j + 1), by omega, rfl, lt, p'⟩, fun x Hc y => turn j x Hb Hc lt p (w.yields j Hb x Hc lt q y)⟩
  · exact .inl ⟨w.stops Hb q, last Hb p⟩
/-- a dict of words by their addresses -/
def WOk (H : Hp) (pcs : List Pc) (ks : List (List Key × V)) : Prop := ∀ e ∈ ks, ∃ (z : Str) (k : Int) (w : Int × Mul) (q : Pc), e.1 = [.inr z, .inl k] ∧ SumP H e.2 w ∧ q ∈ pcs ∧ w ∈ q.2
theorem wOk_s {H H' : Hp} (e : TupS H H') {pcs : List Pc} {ks : List (List Key × V)} (h : WOk H pcs ks) : WOk H' pcs ks := fun x hx => by
  obtain ⟨z, k, w, q, h1, h2, h3⟩ := h x hx
  exact ⟨z, k, w, q, h1, sumT_s e h2, h3⟩
theorem mem_putK {α : Type} [DecidableEq α] {ks : List (α × V)} {u : α} {v : V} {e : α × V} (h : e ∈ putK ks u v) : e ∈ ks ∨ e = (u, v) := by
  unfold putK at h
  split at h
  · obtain ⟨p, hp, rfl⟩ := List.mem_map.mp h
    split
    · rename_i c
      exact .inr (by rw [show p.1 = u from by simpa using c])
    · exact .inl hp
  · rcases List.mem_append.mp h with h | h
    · exact .inl h
    · exact .inr (by simpa using h)
theorem key_put {α : Type} [DecidableEq α] {ks : List (α × V)} {u : α} {v : V} : (∀ k ∈ ks.map (·.1), k ∈ (putK ks u v).map (·.1)) ∧ u ∈ (putK ks u v).map (·.1) := by
  unfold putK
  split
  · rename_i c
    have e : (ks.map fun p => if p.1 = u then (p.1, v) else p).map (·.1) = ks.map (·.1) := by
      rw [List.map_map]
      refine List.map_congr_left fun p _ => ?_
      show (if _ then _ else _ : α × V).1 = p.1
      split <;> rfl
    refine ⟨fun k hk => ?_, ?_⟩
    · rw [e]; exact hk
    · rw [e]
      obtain ⟨p, hp, z⟩ := List.any_eq_true.mp c
      exact List.mem_map.mpr ⟨p, hp, by simpa using z⟩
  · refine ⟨fun k hk => ?_, ?_⟩
    · rw [List.map_append]; exact List.mem_append_left _ hk
    · rw [List.map_append]; simp
theorem len_putK {α : Type} [DecidableEq α] (ks : List (α × V)) (u : α) (v : V) : (putK ks u v).length ≤ ks.length + 1 := by
  unfold putK
  split
  · rw [List.length_map]; omega
  · simp
def spWords (K : PySem.W.Frag) : Sp := fun vs H Q _ => ∃ (a : Addr) (xs : List V) (pcs : List Pc), vs = [.ref a] ∧ H a = some (.tup xs) ∧ PySem.W.EachIs (PieceT H) xs pcs ∧ PcsOk pcs ∧
  ∀ D ks H', Same H H' → H D = none → H' D = some (.dT ks) → WOk H' pcs ks → (∀ q, pcs[0]? = some q → 0 < q.2.length → [.inr q.1, .inl 0] ∈ ks.map (·.1)) → Q (.ref D) H'
abbrev sWords : Stmt := topS 25
theorem scWords : FnScope ["pieces", "p", "_", "words", "k", "word"] ["pieces"] (defScope sWords) := ⟨rfl, rfl, rfl, by decide +kernel, rfl, by decide +kernel, by decide +kernel⟩
abbrev sKinds : Stmt := topS 27
theorem scKinds : FnScope ["pieces", "p", "kind", "_"] ["pieces"] (defScope sKinds) := ⟨rfl, rfl, rfl, by decide +kernel, rfl, by decide +kernel, by decide +kernel⟩
def kindD (zs : List Str) : List (Key × V) := zs.map fun z => (.inr z, V.str "code")
theorem kind_val (zs : List Str) (z : Str) : valV (kindD zs) (.inr z) = if z ∈ zs then some (.str "code") else none := by
  unfold valV kindD
  induction zs with
  | nil => rfl
  | cons y zs ih =>
    rw [List.map_cons]
    by_cases c : y = z
    · subst c
      rw [List.find?_cons_of_pos (by simp)]
      simp
    · rw [List.find?_cons_of_neg (by simp [c])]
      rw [ih]
      simp [Ne.symm c]
theorem kind_put (zs : List Str) {z : Str} (h : z ∉ zs) : putK (kindD zs) (.inr z) (.str "code") = kindD (zs ++ [z]) := by
  unfold putK kindD
  rw [if_neg]
  · rw [List.map_append]
    rfl
  · intro c
    obtain ⟨p, hp, e⟩ := List.any_eq_true.mp c
    obtain ⟨y, hy, rfl⟩ := List.mem_map.mp hp
    have : y = z := Sum.inr.inj (of_decide_eq_true e)
    exact h (this ▸ hy)
def spKinds (K : PySem.W.Frag) : Sp := fun vs H Q _ => ∃ (a : Addr) (xs : List V) (pcs : List Pc), vs = [.ref a] ∧ H a = some (.tup xs) ∧ PySem.W.EachIs (PieceT H) xs pcs ∧ PcsOk pcs ∧
  ∀ D H', Same H H' → H D = none → H' D = some (.dK (kindD (pcs.map (·.1)))) → Q (.ref D) H'
def spCheckW (K : PySem.W.Frag) : Sp := fun vs H Q _ => ∃ (D E : Addr) (ks : List (List Key × V)) (pcs : List Pc), vs = [.ref D, .ref E] ∧ D ≠ E ∧ H D = some (.dT ks) ∧ WOk H pcs ks ∧ PcsOk pcs ∧ H E = some (.dK (kindD (pcs.map (·.1)))) ∧ ∀ H', Same H H' → Q .non H'
abbrev sCheckW : Stmt := topS 29
theorem scCheckW : FnScope ["sums", "kinds", "p", "k", "kind", "of", "_"] ["sums", "kinds"] (defScope sCheckW) := ⟨rfl, rfl, rfl, by decide +kernel, rfl, by decide +kernel, by decide +kernel⟩
section
variable {P : Program} {w : World} {K : PySem.W.Frag} {mg : Str → Option Value} {base : Heap}
theorem ok_words {f : Addr} {fd : FuncData} (F : Fun K "words_of" "words_of" sWords f fd) (T : Bi mg) : FnOk P w K mg base CX0 1 f fd ["pieces"] (spWords K) := by
  refine F.ok scWords (fun vs H Q E h => ?_) (fun cdv A outer s H vs Q E hr h => ?_)
  · obtain ⟨a, xs, pcs, rfl, _⟩ := h
    rfl
  · obtain ⟨a, xs, pcs, rfl, ha, hxs, ok, q⟩ := h
    have hu := hu_of hr
    refine ⟨_, (pss_one (ps_ret (pe_dt2 (own := [("p", 1), ("_", 2), ("words", 3), ("k", 4), ("word", 5)]) (vs1 := [4, 5]) (g := gTup K 3 (gCons (gName 1) (gCons (gName 2) (gCons (gName 3) gNil)))) (g1 := gTup K 2 (gCons (gName 4) (gCons (gName 5) gNil))) (tt := tYes) (tt1 := tYes) (wi1 := iEnumT K (tCons (tVar 3) tNil)) (tk := tTup (tCons (tVar 1) (tCons (tVar 4) tNil))) (tv := tVar 5) hu rfl scWords.nd (pi_tup (pv 0)) (blkOk_by (N := ["pieces", "p", "_", "words", "k", "word"]) (sc := defScope sWords) (by decide +kernel)) (by decide +kernel)
      (fun _ _ _ _ _ => pg_tup rfl (pgs_cons (pg_name (i := 1) scWords.nd rfl (.inl rfl)) (pgs_cons (pg_name (i := 2) scWords.nd rfl (.inl rfl)) (pgs_cons (pg_name (i := 3) scWords.nd rfl (.inl rfl)) pgs_nil)))) (fun _ _ _ _ _ => pts_nil)
      (fun _ _ _ _ _ => pi_enumT (by rfl) T.enumerate (pa_cons (pv 3) pa_nil))
      (fun _ _ _ _ _ => pg_tup rfl (pgs_cons (pg_name (i := 4) scWords.nd rfl (.inl rfl)) (pgs_cons (pg_name (i := 5) scWords.nd rfl (.inl rfl)) pgs_nil))) (fun _ _ _ _ _ => pts_nil)
      (fun _ _ _ _ _ => pe_tup (pa_cons (pv 1) (pa_cons (pv 4) pa_nil))) (fun _ _ _ _ _ => pv 5)))), ?_⟩
    have lx : xs.length = pcs.length := hxs.length
    have few := ok.few
    refine ⟨_, rfl, a, rfl, ⟨xs, SqT.of ha⟩, fun D hD => ?_⟩
    refine wk_it (walk_tup (xs := xs)) (fun i H4 => (∀ c o, c ≠ D → H c = some o → H4 c = some o) ∧ ∃ ks, H4 D = some (.dT ks) ∧ ks.length ≤ 10 * i ∧ WOk H4 pcs ks ∧ (1 ≤ i → ∀ q, pcs[0]? = some q → 0 < q.2.length → [.inr q.1, .inl 0] ∈ ks.map (·.1)))
      ⟨fun c o hc e => by rw [upd_ne hc]; exact e, [], upd_same, Nat.le_refl _, (fun _ h => by cases h), fun z => by omega⟩ (fun i H4 _ ⟨kp, _⟩ => SqT.of (kp _ _ (ne_of_none ha hD) ha)) ?_ ?_
    · rintro i x H4 H4' hi ⟨kp, ks, hD4, hlen, hok, hfirst⟩ ⟨rfl, hx⟩
      obtain ⟨pc, hpc, hp⟩ := eachs_get hxs hx
      have i2 : i < pcs.length := (List.getElem?_eq_some_iff.mp hpc).1
      have pok := ok.each pc (List.mem_of_getElem? hpc)
      have pfew := pok.few
      have s4 : Same H H4' := fun c o e => kp c o (ne_of_none e hD) e
      obtain ⟨t, b, ws, rfl, ht, hb, hws⟩ := pieceT_s (TupS.of s4) hp
      have lw : ws.length = pc.2.length := hws.length
      refine ⟨t, _, rfl, SqT.of ht, rfl, _, _, rfl, _, _, rfl, _, _, rfl, rfl, rfl, yes_go ?_⟩
      refine ⟨_, rfl, b, ws, rfl, SqT.of hb, ?_⟩
      refine wk_it walk_enumT (fun j H5 => (∀ c o, c ≠ D → H4' c = some o → H5 c = some o) ∧ ∃ ks', H5 D = some (.dT ks') ∧ ks'.length ≤ 10 * i + j ∧ WOk H5 pcs ks' ∧ (1 ≤ i → ∀ q, pcs[0]? = some q → 0 < q.2.length → [.inr q.1, .inl 0] ∈ ks'.map (·.1)) ∧ (i = 0 → 1 ≤ j → [.inr pc.1, .inl 0] ∈ ks'.map (·.1)))
        ⟨fun _ _ _ e => e, ks, hD4, hlen, hok, hfirst, fun _ z => by omega⟩ (fun j H5 _ ⟨kp5, _⟩ => SqT.of (kp5 _ _ (ne_of hb hD4 (by intro z; cases z)) hb)) ?_ ?_
      · rintro j y H5 H5' hj ⟨kp5, ks', hD5, hlen5, hok5, hf5, hg5⟩ ⟨TT, y1, y2, rfl, hT, rfl, hy1, hy2⟩
        cases hy1
        have hy2 : ws[j]? = some y2 := hy2
        obtain ⟨wd, hwd, hsum⟩ := eachs_get hws hy2
        have j2 : j < pc.2.length := (List.getElem?_eq_some_iff.mp hwd).1
        have sT := same_new (o := .tup [V.int (j : Nat), y2]) hT
        have hT6 : upd H5 TT (.tup [V.int (j : Nat), y2]) TT = some (.tup [V.int (j : Nat), y2]) := upd_same
        generalize upd H5 TT (.tup [V.int (j : Nat), y2]) = H6 at sT hT6 ⊢
        have ts : TupS H4' H6 := fun c l e => sT _ _ (kp5 c _ (ne_of e hD4 (by intro z; cases z)) e)
        refine ⟨TT, _, rfl, SqT.of hT6, rfl, _, _, rfl, _, _, rfl, rfl, rfl, yes_go ?_⟩
        refine ⟨_, rfl, _, rfl, (by show 2 ≤ sizeLine; decide), fun p7 n7 => ⟨_, rfl, _, ⟨ks', [.inr pc.1, .inl (j : Int)], p7, ?_, rfl, upd_same, small1000 (by omega), rfl⟩, ?_⟩⟩
        · have s7 := same_new (o := .tup [V.str pc.1, V.int (j : Nat)]) n7
          exact s7 _ _ (sT _ _ hD5)
        · have s7 := same_new (o := .tup [V.str pc.1, V.int (j : Nat)]) n7
          have hD7 := s7 _ _ (sT _ _ hD5)
          have ts8 : TupS _ (upd (upd H6 p7 (.tup [V.str pc.1, V.int (j : Nat)])) D (.dT (putK ks' [.inr pc.1, .inl (j : Int)] y2))) := TupS.put hD7 (by intro xs z; cases z)
          have all : TupS H5 (upd (upd H6 p7 (.tup [V.str pc.1, V.int (j : Nat)])) D (.dT (putK ks' [.inr pc.1, .inl (j : Int)] y2))) := (TupS.of (sT.trans s7)).trans ts8
          refine ⟨fun c o hc e => by rw [upd_ne hc]; exact s7 _ _ (sT _ _ (kp5 c o hc e)), _, upd_same, ?_, fun e he => ?_, fun hi1 q hq hql => ?_, fun hi0 _ => ?_⟩
          · have := len_putK ks' [.inr pc.1, .inl (j : Int)] y2
            omega
          · rcases mem_putK he with he | rfl
            · exact wOk_s all hok5 e he
            · exact ⟨pc.1, j, wd, pc, rfl, sumT_s (ts.trans ((TupS.of s7).trans ts8)) hsum, List.mem_of_getElem? hpc, List.mem_of_getElem? hwd⟩
          · exact key_put.1 _ (hf5 hi1 q hq hql)
          · by_cases c : j = 0
            · subst c
              exact key_put.2
            · exact key_put.1 _ (hg5 hi0 (by omega))
      · rintro H5 ⟨kp5, ks', hD5, hlen5, hok5, hf5, hg5⟩
        refine ⟨fun c o hc e => kp5 c o hc (kp c o hc e), ks', hD5, by omega, hok5, fun _ q hq hql => ?_⟩
        by_cases c : i = 0
        · subst c
          obtain rfl : q = pc := Option.some.inj (hq.symm.trans hpc)
          exact hg5 rfl (by omega)
        · exact hf5 (by omega) q hq hql
    · rintro H4 ⟨kp, ks, hD4, hlen, hok, hfirst⟩
      refine q D ks H4 (fun c o e => kp c o (ne_of_none e hD) e) hD hD4 hok fun p hp hpl => hfirst ?_ p hp hpl
      have := (List.getElem?_eq_some_iff.mp hp).1
      omega
theorem ok_kinds {f : Addr} {fd : FuncData} (F : Fun K "kinds_of" "kinds_of" sKinds f fd) (T : Bi mg) : FnOk P w K mg base CX0 1 f fd ["pieces"] (spKinds K) := by
  refine F.ok scKinds (fun vs H Q E h => ?_) (fun cdv A outer s H vs Q E hr h => ?_)
  · obtain ⟨a, xs, pcs, rfl, _⟩ := h
    rfl
  · obtain ⟨a, xs, pcs, rfl, ha, hxs, ok, q⟩ := h
    have hu := hu_of hr
    refine ⟨_, (pss_one (ps_ret (pe_dc (own := [("p", 1), ("kind", 2), ("_", 3)]) (g := gTup K 3 (gCons (gName 1) (gCons (gName 2) (gCons (gName 3) gNil)))) (tt := tYes) (tk := tVar 1) (tv := tVar 2) rfl scKinds.nd (pi_tup (pv 0)) (blkOk_by (N := ["pieces", "p", "kind", "_"]) (sc := defScope sKinds) (by decide +kernel))
      (fun _ _ _ _ _ => pg_tup rfl (pgs_cons (pg_name (i := 1) scKinds.nd rfl (.inl rfl)) (pgs_cons (pg_name (i := 2) scKinds.nd rfl (.inl rfl)) (pgs_cons (pg_name (i := 3) scKinds.nd rfl (.inl rfl)) pgs_nil)))) (fun _ _ _ _ _ => pts_nil) (fun _ _ _ _ _ => pv 1) (fun _ _ _ _ _ => pv 2)))), ?_⟩
    have lx : xs.length = pcs.length := hxs.length
    have few := ok.few
    refine ⟨_, rfl, a, rfl, ⟨xs, SqT.of ha⟩, fun D hD => ?_⟩
    refine dc_it (walk_tup (xs := xs)) (fun i H4 => (∀ c o, c ≠ D → H c = some o → H4 c = some o) ∧ H4 D = some (.dK (kindD ((pcs.take i).map (·.1)))))
      ⟨fun c o hc e => by rw [upd_ne hc]; exact e, upd_same⟩ (fun i H4 _ ⟨kp, _⟩ => SqT.of (kp _ _ (ne_of_none ha hD) ha)) ?_ ?_
    · rintro i x H4 H4' hi ⟨kp, hD4⟩ ⟨rfl, hx⟩
      obtain ⟨pc, hpc, hp⟩ := eachs_get hxs hx
      have i2 : i < pcs.length := (List.getElem?_eq_some_iff.mp hpc).1
      have s4 : Same H H4' := fun c o e => kp c o (ne_of_none e hD) e
      obtain ⟨t, b, ws, rfl, ht, hb, hws⟩ := pieceT_s (TupS.of s4) hp
      have nin : pc.1 ∉ (pcs.take i).map (·.1) := by
        rw [List.map_take]
        exact take_not ok.nod (by rw [List.getElem?_map, hpc]; rfl)
      refine ⟨t, _, rfl, SqT.of ht, rfl, _, _, rfl, _, _, rfl, _, _, rfl, rfl, rfl, yes_go ?_⟩
      refine ⟨_, rfl, _, rfl, _, .inr pc.1, rfl, hD4, small1000 (by unfold kindD; rw [List.length_map, List.length_map, List.length_take]; omega), fun c o hc e => by rw [upd_ne hc]; exact kp c o hc e, ?_⟩
      rw [upd_same, kind_put _ nin, List.take_add_one, hpc, List.map_append]
      rfl
    · rintro H4 ⟨kp, hD4⟩
      rw [lx, List.take_length] at hD4
      exact q D H4 (fun c o e => kp c o (ne_of_none e hD) e) hD hD4
end
end DR

namespace DR
open PySem PySem.Spec PyProof.Rows L2
/-! ### words are looked at -/
section
variable {P : Program} {w : World} {K : PySem.W.Frag} {mg : Str → Option Value} {base : Heap}
theorem ok_checkW {f : Addr} {fd : FuncData} (F : Fun K "check_words" "check_words" sCheckW f fd) (T : Bi mg) : FnOk P w K mg base CX0 1 f fd ["sums", "kinds"] (spCheckW K) := by
  refine F.ok scCheckW (fun vs H Q E h => ?_) (fun cdv A outer s H vs Q E hr h => ?_)
  · obtain ⟨D, E, ks, pcs, rfl, _⟩ := h
    rfl
  · obtain ⟨D, E, ks, pcs, rfl, hDE, hD, hok, ok, hE, q⟩ := h
    have hu := hu_of hr
    refine ⟨_, (pss_one (ps_lock (ps_for PassesOwn.never rfl (pi_keys (pv 0)) (pg_tup rfl (pgs_cons (pg_name (i := 2) scCheckW.nd rfl (.inl rfl)) (pgs_cons (pg_name (i := 3) scCheckW.nd rfl (.inl rfl)) pgs_nil))) (pss_one (ps_for PassesOwn.never rfl (pi_tup (pe_ix ix_tup (pe_dget hu (pv 0) (pe_tup (pa_cons (pv 2) (pa_cons (pv 3) pa_nil))) (fun _ _ => rfl)) pe_int (fun _ _ => rfl))) (pg_tup rfl (pgs_cons (pg_tup rfl (pgs_cons (pg_name (i := 4) scCheckW.nd rfl (.inl rfl)) (pgs_cons (pg_name (i := 5) scCheckW.nd rfl (.inl rfl)) pgs_nil))) (pgs_cons (pg_name (i := 6) scCheckW.nd rfl (.inl rfl)) pgs_nil))) (pss_one (ps_if (PW.pt (pw_or (pt_cmpR op_ne (pv 4) pe_str (nomark _)) (pw_or1 (pt_cmp (pc_dnotin hu (pv 5) (pv 1)) (by rfl))))) (pss_one ps_never) pss_nil))))))), ?_⟩
    refine ⟨D, _, hD, trivial, fun od => ?_⟩
    have ts0 : TupS H (upd H D (.frz od (.dT ks))) := TupS.put hD (by intro xs z; cases z)
    have hD0 : upd H D (.frz od (.dT ks)) D = some (.frz od (.dT ks)) := upd_same
    have kp0 : ∀ b o, b ≠ D → H b = some o → upd H D (.frz od (.dT ks)) b = some o := fun b o hb e => by rw [upd_ne hb]; exact e
    generalize upd H D (.frz od (.dT ks)) = H0 at ts0 hD0 kp0 ⊢
    have hok0 := wOk_s ts0 hok
    have hE0 := kp0 _ _ hDE.symm hE
    refine ⟨_, rfl, D, od, rfl, .inr ⟨ks, hD0, ?_⟩⟩
    refine for_it walk_keysT (fun i σ H5 => ∃ (w2 w3 w4 w5 w6 : Option V), σ = [some (.ref D), some (.ref E), w2, w3, w4, w5, w6] ∧ Same H0 H5)
      ⟨none, none, none, none, none, rfl, fun _ _ e => e⟩ (fun i σ H5 _ ⟨_, _, _, _, _, _, s5⟩ => s5 _ _ hD0) ?_ ?_
    · rintro i x σ H5 H5' hi ⟨w2, w3, w4, w5, w6, rfl, s5⟩ ⟨rfl, k, v, a, hk, rfl, ha⟩
      have hm := List.mem_of_getElem? hk
      obtain ⟨z, n, wd, pc, e, hsum, hpc, hwd⟩ := hok0 _ hm
      have e : k = [.inr z, .inl n] := e
      subst e
      refine ⟨a, _, rfl, SqT.of ha, rfl, _, _, rfl, _, _, rfl, rfl, ?_⟩
      refine ⟨_, rfl, _, rfl, _, rfl, (by show 2 ≤ sizeLine; decide), fun p6 n6 => ?_⟩
      have s6 := same_new (o := .tup [kV (.inr z), kV (.inl n)]) n6
      have hp6 : upd H5' p6 (.tup [kV (.inr z), kV (.inl n)]) p6 = some (.tup [kV (.inr z), kV (.inl n)]) := upd_same
      generalize upd H5' p6 (.tup [kV (.inr z), kV (.inl n)]) = H6 at s6 hp6 ⊢
      have s06 := s5.trans s6
      have hmk : ([.inr z, .inl n] : List Key) ∈ ks.map (·.1) := List.mem_map.mpr ⟨_, hm, rfl⟩
      obtain ⟨v', hv', hmv⟩ : ∃ v', valV ks ([.inr z, .inl n] : List Key) = some v' ∧ (([.inr z, .inl n] : List Key), v') ∈ ks := by
        unfold valV
        cases hf : ks.find? (fun p => decide (p.1 = ([.inr z, .inl n] : List Key))) with
        | none =>
          have := List.find?_eq_none.mp hf _ hm
          simp at this
        | some p =>
          refine ⟨p.2, rfl, ?_⟩
          have h1 := List.find?_some hf
          have h2 := List.mem_of_find?_eq_some hf
          have h3 : p.1 = ([.inr z, .inl n] : List Key) := of_decide_eq_true h1
          rw [← h3]
          exact h2
      obtain ⟨z2, n2, wd2, pc2, e2, hsum2, hpc2, hwd2⟩ := hok0 _ hmv
      obtain ⟨c1, c2, us, e3, hc1, hc2, hus⟩ := sumT_s (TupS.of s06) hsum2
      have e3 : v' = .ref c1 := e3
      subst e3
      have lu : us.length = wd2.2.length := hus.length
      refine ⟨D, _, rfl, .inr ⟨ks, [.inr z, .inl n], p6, .inr ⟨od, s06 _ _ hD0⟩, rfl, hp6, hv'.symm⟩, c1, _, _, _, rfl, rfl, SqT.of hc1, at_of (i := 1) rfl, c2, rfl, ⟨us, SqT.of hc2⟩, ?_⟩
      refine for_it walk_tup (fun j σ H7 => ∃ (w4 w5 w6 : Option V), σ = [some (.ref D), some (.ref E), some (.str z), some (.int n), w4, w5, w6] ∧ Same H6 H7)
        ⟨_, _, _, rfl, fun _ _ e => e⟩ (fun j σ H7 _ ⟨_, _, _, _, s7⟩ => SqT.of (s7 _ _ hc2)) ?_ ?_
      · rintro j y σ H7 H7' hj ⟨w4, w5, w6, rfl, s7⟩ ⟨rfl, hy⟩
        obtain ⟨u, m, c, ee, hum, rfl, hc, he⟩ := part_get hus hy
        have hum2 : u ∈ wd2.2.map (·.1) := List.mem_map.mpr ⟨_, List.mem_of_getElem? hum, rfl⟩
        obtain ⟨z3, hz3, rfl⟩ := ok.own _ hpc2 _ hwd2 _ hum2
        have hc7 := s7 _ _ hc
        have he7 := s7 _ _ he
        refine ⟨c, _, rfl, SqT.of hc7, rfl, _, _, rfl, ⟨ee, _, rfl, SqT.of he7, rfl, _, _, rfl, _, _, rfl, rfl, _, _, rfl, rfl, ?_⟩⟩
        refine ⟨_, rfl, rfl, false, by decide +kernel, ?_⟩
        refine iteF ⟨_, rfl, _, rfl, E, _, rfl, DGet.k (k := .inr z3) (s7 _ _ (s06 _ _ hE0)), ?_⟩
        rw [kind_val, if_pos hz3]
        refine ⟨false, rfl, ?_⟩
        show ∃ (w4 w5 w6 : Option V), _ ∧ _
        exact ⟨_, _, _, rfl, s7⟩
      · rintro σ H7 ⟨w4, w5, w6, rfl, s7⟩
        exact ⟨_, _, _, _, _, rfl, s06.trans s7⟩
    · rintro σ H5 ⟨w2, w3, w4, w5, w6, rfl, s5⟩
      refine ⟨s5 _ _ hD0, q _ fun b o e => ?_⟩
      by_cases c : b = D
      · subst c
        rw [upd_same, ← e, hD]
      · rw [upd_ne c]
        exact s5 _ _ (kp0 _ _ c e)
end
end DR

namespace DR
open PySem PySem.Spec PyProof.Rows L2
/-! ### images -/
def imF (p d r : Addr) : List (Str × V) := [("parts", .ref p), ("sums", .ref d), ("first", .ref r)]
/-- an image of these pieces at x -/
def ImgV (H : Hp) (C x : Addr) (pcs : List Pc) : Prop := PcsOk pcs ∧ ∃ dx p d r xs, H x = some (.ins C dx (imF p d r)) ∧ H p = some (.tup xs) ∧ PySem.W.EachIs (PieceT H) xs pcs
theorem imgV_s {H H' : Hp} (e : Same H H') {C x : Addr} {pcs : List Pc} (h : ImgV H C x pcs) : ImgV H' C x pcs := by
  obtain ⟨ok, dx, p, d, r, xs, h1, h2, h3⟩ := h
  exact ⟨ok, dx, p, d, r, xs, e _ _ h1, e _ _ h2, eachs_imp (fun _ _ => pieceT_s (TupS.of e)) h3⟩
structure ImC (K : PySem.W.Frag) (C : Addr) : Prop where
  cl : Cls K C
  n1 : NoAttr K C "parts"
  n2 : NoAttr K C "sums"
  n3 : NoAttr K C "first"
def spImg (K : PySem.W.Frag) (C : Addr) : Sp := fun vs H Q _ => ∃ (x L r dx : Addr) (xs : List V) (q0 : Pc) (pcs : List Pc), vs = [.ref x, .ref L, .ref r] ∧ H x = some (.ins C dx []) ∧ H L = some (.lst xs) ∧ PySem.W.EachIs (PieceT H) xs (q0 :: pcs) ∧ PcsOk (q0 :: pcs) ∧ 0 < q0.2.length ∧ H r = some (.tup [.str q0.1, .int 0]) ∧
  ∀ H', (∀ b o, b ≠ x → H b = some o → H' b = some o) → ImgV H' C x (q0 :: pcs) → Q .non H'
def spPieces (K : PySem.W.Frag) (C : Addr) : Sp := fun vs H Q _ => ∃ (x : Addr) (pcs : List Pc), vs = [.ref x] ∧ ImgV H C x pcs ∧ ∀ d ys H', Same H H' → H d = none → H' d = some (.lst ys) → PySem.W.EachIs (PieceT H') ys pcs → Q (.ref d) H'
abbrev sImg : Stmt := inClass (topS 30) 0
theorem scImg : FnScope ["self", "pieces", "start", "kinds", "first"] ["self", "pieces", "start"] (defScope sImg) := ⟨rfl, rfl, rfl, by decide +kernel, rfl, by decide +kernel, by decide +kernel⟩
abbrev sPieces : Stmt := inClass (topS 30) 1
theorem scPieces : FnScope ["self"] ["self"] (defScope sPieces) := ⟨rfl, rfl, rfl, by decide +kernel, rfl, by decide +kernel, by decide +kernel⟩
theorem ne_of_none' {H : Hp} {x p : Addr} {o : HO} (h : H x = some o) (hp : H p = none) : p ≠ x := fun z => by
  rw [z, h] at hp
  cases hp
section
variable {P : Program} {w : World} {K : PySem.W.Frag} {mg : Str → Option Value} {base : Heap}
theorem ok_img {f C : Addr} {fd : FuncData} (F : Fun K "__init__" "Image.__init__" sImg f fd) (T : Bi mg) (B : ImC K C) (G1 : Has P w K mg base CX0 6 "read_pieces" ["pieces"] (spReadPcs K)) (G2 : Has P w K mg base CX0 6 "words_of" ["pieces"] (spWords K)) (G3 : Has P w K mg base CX0 6 "kinds_of" ["pieces"] (spKinds K)) (G4 : Has P w K mg base CX0 6 "check_words" ["sums", "kinds"] (spCheckW K)) (G5 : Has P w K mg base CX0 6 "read_address" ["thing"] (spReadAddr K)) :
    FnOk P w K mg base CX0 7 f fd ["self", "pieces", "start"] (spImg K C) := by
  refine F.ok scImg (fun vs H Q E h => ?_) (fun cdv A outer s H vs Q E hr h => ?_)
  · obtain ⟨x, L, r, dx, xs, q0, pcs, rfl, _⟩ := h
    rfl
  · obtain ⟨x, L, r, dx, xs, q0, pcs, rfl, hx, hL, hxs, ok, h0, hr0, qq⟩ := h
    have hu := hu_of hr
    refine ⟨_, (pss_cons (ps_fld (pv 0) (pe_callTy call_tuple_of (by rfl) T.tuple (by decide +kernel) (pa_cons (pe_callH G1 hr (by rfl) pass0 (pa_cons (pv 1) pa_nil)) pa_nil)) rfl)
      (pss_cons (ps_fld (pv 0) (pe_callH G2 hr (by rfl) pass0 (pa_cons (pe_fld (pv 0) rfl) pa_nil)) rfl)
      (pss_cons (ps_set (i := 3) scImg.nd rfl (.inl rfl) (pe_callH G3 hr (by rfl) pass0 (pa_cons (pe_fld (pv 0) rfl) pa_nil)))
      (pss_cons (ps_expr (pe_callH G4 hr (by rfl) pass0 (pa_cons (pe_fld (pv 0) rfl) (pa_cons (pv 3) pa_nil))))
      (pss_cons (ps_set (i := 4) scImg.nd rfl (.inl rfl) (pe_callH G5 hr (by rfl) pass0 (pa_cons (pv 2) pa_nil)))
      (pss_cons (ps_if (PW.pt (pw_or (pt_cmpR op_isN (pv 4) pe_non (nomark _)) (pw_or (pt_cmp (pc_dnotin hu (pv 4) (pe_fld (pv 0) rfl)) (by rfl)) (pw_or1 (pt_cmpR op_ne (pe_dget hu (pv 3) (pe_ix ix_tup (pv 4) pe_int (fun _ _ => rfl)) (fun _ _ => rfl)) pe_str (nomark _)))))) (pss_one ps_never) pss_nil)
      (pss_one (ps_fld (pv 0) (pv 4) rfl)))))))), ?_⟩
    refine ⟨_, rfl, L, xs, q0 :: pcs, rfl, hL, hxs, ok, fun D ys H1 s1 hD0 hD hys => ⟨D, ys, rfl, .inl ⟨SqL.of hD, fun p hp => ?_⟩⟩⟩
    have pnx : p ≠ x := ne_of_none' (s1 _ _ hx) hp
    have s12 := s1.trans (same_new (o := .tup ys) hp)
    refine ⟨_, rfl, x, C, dx, [], rfl, s12 _ _ hx, B.cl, B.n1, (by decide), ?_⟩
    generalize hH3 : upd (upd H1 p (.tup ys)) x (.ins C dx (putF "parts" (.ref p) [])) = H3
    have k3 : ∀ b o, b ≠ x → H b = some o → H3 b = some o := fun b o hb e => by
      rw [← hH3, upd_ne hb]
      exact s12 _ _ e
    have x3 : H3 x = some (.ins C dx [("parts", .ref p)]) := by rw [← hH3, upd_same]; rfl
    have p3 : H3 p = some (.tup ys) := by rw [← hH3, upd_ne pnx]; exact upd_same
    have t13 : TupS H1 H3 := by
      rw [← hH3]
      exact (TupS.of (same_new hp)).trans (TupS.put (s12 _ _ hx) (by intro xs z; cases z))
    have r3 := eachs_imp (fun _ _ => pieceT_s t13) hys
    refine ⟨_, rfl, x, C, dx, _, _, rfl, x3, B.cl, B.n1, rfl, p, ys, _, rfl, p3, r3, ok, fun W ks H4 s4 hW0 hW hok hfst => ?_⟩
    have x4 := s4 _ _ x3
    have hWx : W ≠ x := ne_of_none' x3 hW0
    refine ⟨_, rfl, x, C, dx, _, rfl, x4, B.cl, B.n2, (by show 1 < 1000; decide), ?_⟩
    generalize hH5 : upd H4 x (.ins C dx (putF "sums" (.ref W) [("parts", .ref p)])) = H5
    have k5 : ∀ b o, b ≠ x → H b = some o → H5 b = some o := fun b o hb e => by
      rw [← hH5, upd_ne hb]
      exact s4 _ _ (k3 b o hb e)
    have x5 : H5 x = some (.ins C dx [("parts", .ref p), ("sums", .ref W)]) := by rw [← hH5, upd_same]; rfl
    have p5 : H5 p = some (.tup ys) := by rw [← hH5, upd_ne pnx]; exact s4 _ _ p3
    have W5 : H5 W = some (.dT ks) := by rw [← hH5, upd_ne hWx]; exact hW
    have t45 : TupS H4 H5 := by
      rw [← hH5]
      exact TupS.put x4 (by intro xs z; cases z)
    have r5 := eachs_imp (fun _ _ => pieceT_s ((TupS.of s4).trans t45)) r3
    have hok5 := wOk_s t45 hok
    refine ⟨_, rfl, x, C, dx, _, _, rfl, x5, B.cl, B.n1, rfl, p, ys, _, rfl, p5, r5, ok, fun E6 H6 s6 hE0 hE => ?_⟩
    have x6 := s6 _ _ x5
    have hWE : W ≠ E6 := fun z => by rw [← z, W5] at hE0; cases hE0
    refine ⟨_, rfl, x, C, dx, _, _, rfl, x6, B.cl, B.n2, rfl, _, rfl, W, E6, ks, _, rfl, hWE, s6 _ _ W5, wOk_s (TupS.of s6) hok5, ok, hE, fun H7 s7 => ?_⟩
    have rx : r ≠ x := ne_of hr0 hx (by intro z; cases z)
    have pok := ok.each q0 (List.mem_cons_self ..)
    refine ⟨_, rfl, r, q0.1, 0, rfl, s7 _ _ (s6 _ _ (k5 _ _ rx hr0)), pok.nm, fun r8 H8 s8 hr80 hr8 => ?_⟩
    have x8 := s8 _ _ (s7 _ _ x6)
    have W8 := s8 _ _ (s7 _ _ (s6 _ _ W5))
    have E8 := s8 _ _ (s7 _ _ hE)
    refine ⟨_, rfl, rfl, _, rfl, ?_⟩
    refine iteF ⟨_, rfl, _, rfl, x, C, dx, _, _, rfl, x8, B.cl, B.n2, rfl, W, _, rfl, DGet.t (k := [.inr q0.1, .inl 0]) W8 hr8, ?_⟩
    have hin : (valV ks ([.inr q0.1, .inl 0] : List Key)).isSome = true := by
      obtain ⟨e, he, ee⟩ := List.mem_map.mp (hfst q0 rfl h0)
      unfold valV
      cases hf : ks.find? (fun p => decide (p.1 = ([.inr q0.1, .inl 0] : List Key))) with
      | none =>
        have := List.find?_eq_none.mp hf _ he
        simp [ee] at this
      | some p => rfl
    rw [hin]
    refine ⟨false, rfl, ?_⟩
    refine iteF ⟨_, rfl, _, rfl, r8, _, _, _, rfl, rfl, SqT.of hr8, at_of (i := 0) rfl, E6, V.str "code", rfl, ?_, rfl, false, by decide +kernel, ?_⟩
    · have g := DGet.k (k := .inr q0.1) E8
      rw [kind_val, if_pos (by simp)] at g
      exact g
    · refine ⟨_, rfl, _, rfl, x, C, dx, _, rfl, x8, B.cl, B.n3, (by show 2 < 1000; decide), ?_⟩
      have t58 := TupS.of ((s6.trans s7).trans s8)
      have t89 : TupS H8 (upd H8 x (.ins C dx (putF "first" (.ref r8) [("parts", .ref p), ("sums", .ref W)]))) := TupS.put x8 (by intro xs z; cases z)
      refine qq _ (fun b o hb e => by rw [upd_ne hb]; exact s8 _ _ (s7 _ _ (s6 _ _ (k5 b o hb e)))) ⟨ok, dx, p, W, r8, ys, upd_same, ?_, eachs_imp (fun _ _ => pieceT_s (t58.trans t89)) r5⟩
      rw [upd_ne pnx]
      exact s8 _ _ (s7 _ _ (s6 _ _ p5))
theorem ok_pieces {f C : Addr} {fd : FuncData} (F : Fun K "pieces" "Image.pieces" sPieces f fd) (T : Bi mg) (B : ImC K C) : FnOk P w K mg base CX0 1 f fd ["self"] (spPieces K C) := by
  refine F.ok scPieces (fun vs H Q E h => ?_) (fun cdv A outer s H vs Q E hr h => ?_)
  · obtain ⟨x, pcs, rfl, _⟩ := h
    rfl
  · obtain ⟨x, pcs, rfl, ⟨ok, dx, p, d, r, xs, hx, hp, hxs⟩, q⟩ := h
    refine ⟨_, (pss_one (ps_ret (pe_callTy call_list_of (by rfl) T.list (by decide +kernel) (pa_cons (pe_fld (pv 0) rfl) pa_nil)))), ?_⟩
    refine ⟨_, rfl, x, C, dx, _, _, rfl, hx, B.cl, B.n1, rfl, p, xs, rfl, .inr (SqT.of hp), fun D hD => ?_⟩
    have s1 := same_new (o := .lst xs) hD
    exact q D xs _ s1 hD upd_same (eachs_imp (fun _ _ => pieceT_s (TupS.of s1)) hxs)
end
end DR

namespace DR
open PySem PySem.Spec PyProof.Rows L2
/-! ### own errors of two fields -/
/-- self.f as a target -/
def gOst (K : PySem.W.Frag) (f : Str) (to : TE) : TG := fun y σ H Q => to σ H fun x H2 => ∃ a C : Addr, x = .ref a ∧ OexC K C ∧ PySem.W.findIn K (.ref C) f = some none ∧
  ((H2 a = some (exo a C none) ∧ ∀ dx, H2 dx = none → dx ≠ a → Q σ (upd (upd H2 dx (exd dx [(f, y)])) a (exo a C (some dx)))) ∨
    ∃ (dx : Addr) (fs : List (Str × V)), H2 a = some (exo a C (some dx)) ∧ H2 dx = some (exd dx fs) ∧ fs.length ≤ 900 ∧ Q σ (upd H2 dx (exd dx ((f, y) :: fs))))
theorem pg_ost {X : Cx} {o : Expr} {to : TE} {f : Str} {p : Pos} (ho : PE X o to) : PG X (.Attribute o f p) (gOst X.K f to) := by
  refine ⟨fun pins s σ H v u Q I r h => ?_⟩
  refine PySem.W.kas_attr (thn (ho.run pins s σ H _ I h) fun u1 s2 ⟨x, H2, I2, r2, a, C, ex, T, hno, q⟩ => ?_)
  subst ex
  obtain rfl : u1 = Value.ref a := r2
  rcases q with ⟨ea, q⟩ | ⟨dx, fs, ea, ed, hl, q⟩
  · exact ost_new T I2 ea hno r fun dx s' n ne J => ⟨σ, _, J, q dx n ne⟩
  · exact ost_old T I2 ea ed hl hno r fun s' J => ⟨σ, _, J, q⟩
/-- __init__ stores its arguments under f and g -/
def spErrInit2 (K : PySem.W.Frag) (C : Addr) (f g : Str) : Sp := fun vs H Q _ => ∃ a y z, vs = [.ref a, y, z] ∧ H a = some (exo a C none) ∧ ∀ tp dx, H tp = none → upd H tp (.tup [y, z]) dx = none → dx ≠ a →
  Q .non (upd (upd (upd (upd H tp (.tup [y, z])) dx (exd dx [(f, y)])) a (exo a C (some dx))) dx (exd dx [(g, z), (f, y)]))
structure Err2 (P : Program) (w : World) (K : PySem.W.Frag) (mg : Str → Option Value) (base : Heap) (x : Str) (C : Addr) (f g : Str) : Prop where
  at_ : mg x = some (.ref C)
  T : OexC K C
  no : PySem.W.findIn K (.ref C) f = some none
  no2 : PySem.W.findIn K (.ref C) g = some none
  xf : XfC K C
  te : PySem.W.exmOne K (.ref C) (.ref C) = some true
  ini : ∃ (fI : Addr) (fd : FuncData) (p2 p3 : Str), PySem.W.findIn K (.ref C) "__init__" = some (some (.ref fI)) ∧ PySem.W.typeIn K (.ref fI) = some (.type "function") ∧ Binds K fd ["self", p2, p3] [] ∧ FnOk P w K mg base CX0 1 fI fd ["self", p2, p3] (spErrInit2 K C f g)
theorem err_go2 {K : PySem.W.Frag} {C : Addr} {f g : Str} {y z : V} {H1 : Hp} {Q : XK} (q : ∀ tp dx, H1 tp = none → upd H1 tp (.tup [y, z]) dx = none → Q (.ref C) (some dx) (upd (upd H1 tp (.tup [y, z])) dx (.xd [(g, z), (f, y)]))) :
    [y, z].length ≤ 1000 ∧ ∀ a, H1 a = none → spErrInit2 K C f g (.ref a :: ([y, z] ++ [])) (upd H1 a (exo a C none)) (fun v H2 => v = .non ∧ ∃ (d : Addr) (fs : List (Str × V)), H2 a = some (exo a C (some d)) ∧ H2 d = some (exd d fs) ∧ H1 d = none ∧ Q (.ref C) (some d) (upd (del H2 a) d (.xd fs))) (fun _ _ _ => False) := by
  refine ⟨(by show 2 ≤ 1000; decide), fun a ha => ⟨a, y, z, rfl, upd_same, fun tp dx htp hdx hne => ⟨rfl, dx, [(g, z), (f, y)], ?_, upd_same, ?_, ?_⟩⟩⟩
  · rw [upd_ne (Ne.symm hne), upd_same]
  · have h1 : dx ≠ tp := fun e => by rw [e, upd_same] at hdx; cases hdx
    rw [upd_ne h1, upd_ne hne] at hdx
    exact hdx
  · have ta : tp ≠ a := fun e => by rw [e, upd_same] at htp; cases htp
    have h1 : dx ≠ tp := fun e => by rw [e, upd_same] at hdx; cases hdx
    have h2 : H1 tp = none := by
      rw [upd_ne ta] at htp
      exact htp
    have h3 : upd H1 tp (.tup [y, z]) dx = none := by
      rw [upd_ne h1, upd_ne hne] at hdx
      rw [upd_ne h1]
      exact hdx
    have e : upd (del (upd (upd (upd (upd (upd H1 a (exo a C none)) tp (.tup [y, z])) dx (exd dx [(f, y)])) a (exo a C (some dx))) dx (exd dx [(g, z), (f, y)])) a) dx (.xd [(g, z), (f, y)]) = upd (upd H1 tp (.tup [y, z])) dx (.xd [(g, z), (f, y)]) := by
      funext b
      by_cases hb : b = dx
      · rw [hb, upd_same, upd_same]
      · rw [upd_ne hb, upd_ne hb]
        by_cases hb2 : b = a
        · rw [hb2, del_same, upd_ne ta.symm, ha]
        · rw [del_ne hb2, upd_ne hb, upd_ne hb2, upd_ne hb]
          by_cases hb3 : b = tp
          · rw [hb3, upd_same, upd_same]
          · rw [upd_ne hb3, upd_ne hb2, upd_ne hb3]
    rw [e]
    exact q tp dx h2 h3
def tRaise2 (K : PySem.W.Frag) (C : Addr) (f g : Str) (te tu : TE) (W : WX) : TS := fun _ σ H => tMkO C (spErrInit2 K C f g) [] (tCons te (tCons tu tNil)) σ H fun cls d H' => W cls d σ H'
theorem ps_err2 {X : Cx} {W : WX} {x f g : Str} {C : Addr} {e e' : Expr} {te tu : TE} {p pos pos2 : Pos} {k : Nat} (hc : X.calm = true) (tk : Takes X W) (T : Err2 X.prog X.w X.K X.mg X.base x C f g) (hr : Room k X.A) (h2 : 2 ≤ k) (he : PE X e te) (hu : PE X e' tu) (hg : Gl X x := by rfl)
    (hdb : (x == ("__debug__" : Str)) = false := by decide) (hs : starEach (e :: [e']) X.env = (false, eval e X.env) :: starEach [e'] X.env := by rfl) (hs2 : starEach (e' :: []) X.env = (false, eval e' X.env) :: starEach [] X.env := by rfl) (hpl : (backTo pos (starEach [e'] X.env)).any (·.1) = false := by rfl) :
    PS X (.Raise (some (.Call (.Name x p) [e, e'] [] pos)) none pos2) (tRaise2 X.K C f g te tu W) := by
  obtain ⟨fI, fd, p2, p3, iC, tI, hb, F⟩ := T.ini
  exact ps_raise (pos := pos2) hc tk (pmk_oex (p := p) (pos := pos) T.T iC tI F (hr.mono h2) hb .nil pass0 hg T.at_ (pa_cons he (pa_cons hu pa_nil hs2) hs) hdb hs hpl)
/-! ### the errors' __init__ -/
abbrev sIniN : Stmt := inClass (topS 6) 0
abbrev sIniO : Stmt := inClass (topS 7) 0
theorem scIniN : FnScope ["self", "p"] ["self", "p"] (defScope sIniN) := ⟨rfl, rfl, rfl, by decide +kernel, rfl, by decide +kernel, by decide +kernel⟩
theorem scIniO : FnScope ["self", "p", "q"] ["self", "p", "q"] (defScope sIniO) := ⟨rfl, rfl, rfl, by decide +kernel, rfl, by decide +kernel, by decide +kernel⟩
section
variable {P : Program} {w : World} {K : PySem.W.Frag} {mg : Str → Option Value} {base : Heap}
theorem ok_iniN {f C : Addr} {fd : FuncData} (F : Fun K "__init__" "NoPlace.__init__" sIniN f fd) (T : OexC K C) (no : PySem.W.findIn K (.ref C) "p" = some none) : FnOk P w K mg base CX0 1 f fd ["self", "p"] (spErrInit K C "p") := by
  refine F.ok scIniN (fun vs H Q E h => ?_) (fun cdv A outer s H vs Q E hr h => ?_)
  · obtain ⟨a, y, rfl, _⟩ := h
    rfl
  · obtain ⟨a, y, rfl, ha, q⟩ := h
    exact ⟨_, pss_one (ps_ost (pv 0) (pv 1)), _, rfl, _, rfl, a, C, rfl, T, no, .inl ⟨ha, q⟩⟩
theorem ok_iniO {f C : Addr} {fd : FuncData} (F : Fun K "__init__" "Over.__init__" sIniO f fd) (T : OexC K C) (no : PySem.W.findIn K (.ref C) "p" = some none) (no2 : PySem.W.findIn K (.ref C) "q" = some none) : FnOk P w K mg base CX0 1 f fd ["self", "p", "q"] (spErrInit2 K C "p" "q") := by
  refine F.ok scIniO (fun vs H Q E h => ?_) (fun cdv A outer s H vs Q E hr h => ?_)
  · obtain ⟨a, y, z, rfl, _⟩ := h
    rfl
  · obtain ⟨a, y, z, rfl, ha, q⟩ := h
    refine ⟨_, pss_one (ps_asg (pe_tup (pa_cons (pv 1) (pa_cons (pv 2) pa_nil))) (pg_tup rfl (pgs_cons (pg_ost (pv 0)) (pgs_cons (pg_ost (pv 0)) pgs_nil)))), ?_⟩
    refine ⟨_, rfl, _, rfl, (by show 2 ≤ sizeLine; decide), fun tp htp => ?_⟩
    have ha1 : upd H tp (.tup [y, z]) a = some (exo a C none) := (same_new htp) _ _ ha
    refine ⟨tp, _, rfl, SqT.of upd_same, rfl, _, _, rfl, _, rfl, a, C, rfl, T, no, .inl ⟨ha1, fun dx hdx hne => ?_⟩⟩
    refine ⟨_, _, rfl, _, rfl, a, C, rfl, T, no2, .inr ⟨dx, [("p", y)], upd_same, by rw [upd_ne hne, upd_same], (by show 1 ≤ 900; decide), rfl, q tp dx htp hdx hne⟩⟩
end
end DR

namespace DR
open PySem PySem.Spec PyProof.Rows L2
/-- a method of the class at C that keeps its promise -/
structure HasM (P : Program) (w : World) (K : PySem.W.Frag) (mg : Str → Option Value) (base : Heap) (CX : CXT) (k : Nat) (C : Addr) (m : Str) (ps : List Str) (sp : Sp) : Prop where
  ex : ∃ (f : Addr) (fd : FuncData), Meth K C m f ∧ Binds K fd ps [] ∧ FnOk P w K mg base CX k f fd ps sp
  cl : Cls K C
theorem HasM.mono {P : Program} {w : World} {K : PySem.W.Frag} {mg : Str → Option Value} {base : Heap} {CX : CXT} {j k : Nat} {C : Addr} {m : Str} {ps : List Str} {sp : Sp} (h : HasM P w K mg base CX j C m ps sp) (l : j ≤ k) : HasM P w K mg base CX k C m ps sp := by
  obtain ⟨⟨f, fd, a, b, c⟩, d⟩ := h
  exact ⟨⟨f, fd, a, b, c.mono l⟩, d⟩
section
variable {X : Cx} {CX : CXT} {k : Nat} {C : Addr} {ps : List Str} {sp : Sp} {E : XK} {m : Str} {p pos apos : Pos} {e o : Expr} {es : List Expr} {t : TA} {ta : TE}
theorem pe_methH {pl : Sem Bool} (M : HasM X.prog X.w X.K X.mg X.base CX k C m ps sp) (he : PE X o ta) (hr : Room k X.A) (hx : Passes CX X E) (ha : PA X (e :: es) t)
    (hst : starEach (e :: es) X.env = (false, eval e X.env) :: starEach es X.env := by rfl) (hpl : (backTo pos (starEach es X.env)).any (·.1) = false := by rfl)
    (ht : eval (.Call (.Attribute o m apos) (e :: es) [] pos) X.env = (do
      let ov ← eval o X.env
      standAt apos.atName
      let (f, first) ← holding [ov] (getMethod ov m pl)
      callWith pos f first (backTo pos (starEach (e :: es) X.env)) (backToKw pos (keywordEach [] X.env))) := by rfl) : PE X (.Call (.Attribute o m apos) (e :: es) [] pos) (tMeth C m sp [] E ta t) := by
  obtain ⟨⟨f, fd, a, b, c⟩, d⟩ := M
  exact pe_meth he d a c hr b .nil hx ha hst hpl ht
theorem pe_methH0 {pl : Sem Bool} (M : HasM X.prog X.w X.K X.mg X.base CX k C m ps sp) (he : PE X o ta) (hr : Room k X.A) (hx : Passes CX X E)
    (ht : eval (.Call (.Attribute o m apos) [] [] pos) X.env = (do
      let ov ← eval o X.env
      standAt apos.atName
      let (f, first) ← holding [ov] (getMethod ov m pl)
      callWith pos f first (backTo pos (starEach [] X.env)) (backToKw pos (keywordEach [] X.env))) := by rfl) : PE X (.Call (.Attribute o m apos) [] [] pos) (tMeth C m sp [] E ta tNil) := by
  obtain ⟨⟨f, fd, a, b, c⟩, d⟩ := M
  exact pe_meth0 he d a c hr b .nil hx ht
end
/-! ### places -/
/-- what a piece may have as its place -/
inductive Sc
  | i (n : Int)
  | no
  | tr
  | s (x : Str)
def Sc.v : Sc → V
  | .i n => .int n
  | .no => .non
  | .tr => .bl true
  | .s x => .str x
def Sc.d : Sc → PyData
  | .i n => .int n
  | .no => .none
  | .tr => .bool true
  | .s x => .str x
theorem Sc.th {K : PySem.W.Frag} {H : Hp} : ∀ c : Sc, Dp K H c.v c.d
  | .i n => .int n
  | .no => .non
  | .tr => .bl true
  | .s x => .str x
abbrev Pl := List (Str × Sc)
def plD (l : Pl) : List (Key × V) := l.map fun q => (.inr q.1, q.2.v)
theorem plD_val (l : Pl) (z : Str) : valV (plD l) (.inr z) = (l.lookup z).map Sc.v := by
  unfold valV plD
  induction l with
  | nil => rfl
  | cons p l ih =>
    rw [List.map_cons]
    by_cases c : p.1 = z
    · subst c
      rw [List.find?_cons_of_pos (by simp)]
      simp [List.lookup]
    · rw [List.find?_cons_of_neg (by simp [c])]
      have : (z == p.1) = false := by simpa using fun e => c e.symm
      obtain ⟨a, b⟩ := p
      simp only [List.lookup, this]
      exact ih
/-- what is handed in as the places -/
inductive PlA
  | oth (d : PyData)
  | dct (l : Pl)
def PlV (K : PySem.W.Frag) (H : Hp) (v : V) : PlA → Prop
  | .oth d => Dp K H v d ∧ PySem.W.kitOne K (.type (tyN d)) (.type "dict") = some false
  | .dct l => ∃ D, v = .ref D ∧ H D = some (.dK (plD l)) ∧ l.length ≤ 20 ∧ ∀ q ∈ l, ∀ n, q.2 = .i n → Sz n
theorem plV_s {K : PySem.W.Frag} {H H' : Hp} (e : Same H H') {v : V} {a : PlA} (h : PlV K H v a) : PlV K H' v a := by
  cases a with
  | oth d => exact ⟨dp_same e h.1, h.2⟩
  | dct l =>
    obtain ⟨D, h1, h2, h3⟩ := h
    exact ⟨D, h1, e _ _ h2, h3⟩
def okS : Option Sc → Bool
  | none => false
  | some c => isI c.d
def okP (a : PlA) (z : Str) : Bool := match a with
  | .oth _ => false
  | .dct l => okS (l.lookup z)
/-- the first piece that has no place -/
def plBad (a : PlA) (pcs : List Pc) : Option Pc := pcs.find? fun q => !okP a q.1
theorem find_at {α : Type} {l : List α} {p : α → Bool} {i : Nat} {a : α} (h : (l.take i).find? p = none) (ha : l[i]? = some a) (hp : p a = true) : l.find? p = some a := by
  have e : l = l.take i ++ (a :: l.drop (i + 1)) := by
    have hi := (List.getElem?_eq_some_iff.mp ha).1
    have : l[i] = a := (List.getElem?_eq_some_iff.mp ha).2
    rw [← this, ← List.drop_eq_getElem_cons hi, List.take_append_drop]
  rw [e, List.find?_append, h, Option.none_or, List.find?_cons_of_pos hp]
theorem find_step {α : Type} {l : List α} {p : α → Bool} {i : Nat} {a : α} (h : (l.take i).find? p = none) (ha : l[i]? = some a) (hp : p a = false) : (l.take (i + 1)).find? p = none := by
  rw [List.take_add_one, ha, List.find?_append, h]
  simp [hp]
theorem kit_dd {K : PySem.W.Frag} : PySem.W.kitOne K (.type "dict") (.type "dict") = some true := by
  show kitB "dict" "dict" = some true
  decide +kernel
def spCheckP (K : PySem.W.Frag) (C CN : Addr) : Sp := fun vs H Q E => ∃ (x : Addr) (v : V) (a : PlA) (pcs : List Pc), vs = [.ref x, v] ∧ ImgV H C x pcs ∧ PlV K H v a ∧
  (∀ q, plBad a pcs = some q → ∀ H' dx, Same H H' → H' dx = none → E (.ref CN) (some dx) (upd H' dx (.xd [("p", .str q.1)]))) ∧ (plBad a pcs = none → ∀ H', Same H H' → Q .non H')
abbrev sCheckP : Stmt := topS 31
theorem scCheckP : FnScope ["image", "places", "p", "_"] ["image", "places"] (defScope sCheckP) := ⟨rfl, rfl, rfl, by decide +kernel, rfl, by decide +kernel, by decide +kernel⟩
section
variable {P : Program} {w : World} {K : PySem.W.Frag} {mg : Str → Option Value} {base : Heap}
theorem ok_checkP {f C CN : Addr} {fd : FuncData} (F : Fun K "check_places" "check_places" sCheckP f fd) (T : Bi mg) (S : Err P w K mg base "NoPlace" CN "p") (M1 : HasM P w K mg base CX0 4 C "pieces" ["self"] (spPieces K C)) (G1 : Has P w K mg base CX0 4 "is_integer" ["thing"] (spIsInt K)) :
    FnOk P w K mg base (L2.CX P w) 5 f fd ["image", "places"] (spCheckP K C CN) := by
  refine F.okX scCheckP (fun vs H Q E h => ?_) (fun cdv A outer s H vs Q E hr h => ?_)
  · obtain ⟨x, v, a, pcs, rfl, _⟩ := h
    rfl
  · obtain ⟨x, v, a, pcs, rfl, hx, hv, qe, q⟩ := h
    have hu := hu_of hr
    refine ⟨_, (pss_one (ps_for (passes_of rfl) rfl (pi_list (pe_methH0 M1 (pv 0) hr pass0)) (pg_tup rfl (pgs_cons (pg_name (i := 2) scCheckP.nd rfl (.inl rfl)) (pgs_cons (pg_name (i := 3) scCheckP.nd rfl (.inl rfl)) (pgs_cons (pg_name (i := 3) scCheckP.nd rfl (.inl rfl)) pgs_nil)))) (pss_one (ps_if (PW.pt (pw_or (pt_not (pt_val (pe_callB call_isi (by rfl) T.isinstance (by decide +kernel) (pa_cons (pv 1) (pa_cons (pe_bltn (v := .ty "dict") (by rfl) T.dict (by decide +kernel) rfl) pa_nil))))) (pw_or1 (pt_not (pt_val (pe_callH G1 hr (by rfl) pass0 (pa_cons (pe_dget1 hu (pv 1) (pv 2) ⟨rfl, rfl, rfl, rfl⟩) pa_nil))))))) (pss_one (ps_err rfl (takes_of rfl rfl rfl rfl) S hr (by decide) (pv 2))) pss_nil)))), ?_⟩
    obtain ⟨ok, dx, p, d, r, ys, h1, h2, h3⟩ := id hx
    refine ⟨_, rfl, x, dx, _, rfl, h1, rfl, x, pcs, rfl, hx, fun L xs H1 s1 hL0 hL hxs => ?_⟩
    refine ⟨L, rfl, ⟨_, SqL.of hL⟩, ?_⟩
    have lx : xs.length = pcs.length := hxs.length
    refine for_it walk_list (fun i σ H4 => ∃ (w2 w3 : Option V), σ = [some (.ref x), some v, w2, w3] ∧ Same H1 H4 ∧ (pcs.take i).find? (fun q => !okP a q.1) = none)
      ⟨none, none, rfl, fun _ _ e => e, rfl⟩ (fun i σ H4 _ ⟨_, _, _, s4, _⟩ => SqL.of (s4 _ _ hL)) ?_ ?_
    · rintro i y σ H4 H4' hi ⟨w2, w3, rfl, s4, nb⟩ ⟨rfl, hy⟩
      obtain ⟨pc, hpc, hp⟩ := eachs_get hxs hy
      obtain ⟨t, b, ws, rfl, ht, hb, hws⟩ := pieceT_s (TupS.of s4) hp
      have s04 := s1.trans s4
      refine ⟨t, _, rfl, SqT.of ht, rfl, _, _, rfl, _, _, rfl, _, _, rfl, rfl, ?_⟩
      cases a with
      | oth d =>
        obtain ⟨hd, hk⟩ := plV_s s04 hv
        refine ⟨_, rfl, v, _, _, _, _, rfl, .ty "dict", th_ty (.dat hd), hk, _, rfl, ?_⟩
        exact iteT (iteT ⟨_, rfl, err_go fun dx' hdx => qe pc (find_at nb hpc rfl) H4' dx' s04 hdx⟩)
      | dct l =>
        obtain ⟨D, rfl, hD, hl⟩ := plV_s s04 hv
        refine ⟨_, rfl, .ref D, _, _, _, _, rfl, .ty "dict", .base (.dK hD), kit_dd, _, rfl, ?_⟩
        refine iteF ⟨_, rfl, D, rfl, .inl ⟨_, .inl hD⟩, _, rfl, _, DGet.k (k := .inr pc.1) hD, ?_⟩
        rw [plD_val]
        obtain ⟨c, e1, e2⟩ : ∃ c : Sc, ((l.lookup pc.1).map Sc.v).getD .non = c.v ∧ okP (.dct l) pc.1 = isI c.d := by
          show ∃ c : Sc, _ ∧ okS (l.lookup pc.1) = isI c.d
          cases l.lookup pc.1 with
          | none => exact ⟨.no, rfl, rfl⟩
          | some c => exact ⟨c, rfl, rfl⟩
        rw [e1]
        refine ⟨_, c.d, rfl, .dat c.th, _, rfl, ?_⟩
        cases e3 : isI c.d with
        | true =>
          refine iteF ?_
          exact ⟨_, _, rfl, s4, find_step nb hpc (by show (!okP (.dct l) pc.1) = false; rw [e2, e3]; rfl)⟩
        | false =>
          exact iteT ⟨_, rfl, err_go fun dx' hdx => qe pc (find_at nb hpc (by show (!okP (.dct l) pc.1) = true; rw [e2, e3]; rfl)) H4' dx' s04 hdx⟩
    · rintro σ H4 ⟨w2, w3, rfl, s4, nb⟩
      rw [lx, List.take_length] at nb
      exact q nb H4 (s1.trans s4)
end
end DR

namespace DR
open PySem PySem.Spec PyProof.Rows L2
/-! ### pieces over one another -/
abbrev Spot := Str × Int × Int
def SpotV (H : Hp) (v : V) (s : Spot) : Prop := ∃ t, v = .ref t ∧ H t = some (.tup [.str s.1, .int s.2.1, .int s.2.2])
theorem spotV_s {H H' : Hp} (e : Same H H') {v : V} {s : Spot} (h : SpotV H v s) : SpotV H' v s := by
  obtain ⟨t, h1, h2⟩ := h
  exact ⟨t, h1, e _ _ h2⟩
def hit (s t : Spot) : Bool := decide ((if t.2.1 > s.2.1 then t.2.1 else s.2.1) < (if t.2.2 < s.2.2 then t.2.2 else s.2.2))
def overOf : List Spot → Option (Spot × Spot)
  | [] => none
  | s :: l => match l.find? (hit s) with
    | some t => some (s, t)
    | none => overOf l
def spCheckO (K : PySem.W.Frag) (CO : Addr) : Sp := fun vs H Q E => ∃ (L : Addr) (xs : List V) (sps : List Spot), vs = [.ref L] ∧ H L = some (.lst xs) ∧ PySem.W.EachIs (SpotV H) xs sps ∧ sps.length ≤ 100 ∧
  (∀ s t, overOf sps = some (s, t) → ∀ H' dx, Same H H' → H' dx = none → E (.ref CO) (some dx) (upd H' dx (.xd [("q", .str t.1), ("p", .str s.1)]))) ∧ (overOf sps = none → ∀ H', Same H H' → Q .non H')
abbrev sCheckO : Stmt := topS 32
theorem scCheckO : FnScope ["spots", "index", "p", "begin", "end", "q", "other_begin", "other_end"] ["spots"] (defScope sCheckO) := ⟨rfl, rfl, rfl, by decide +kernel, rfl, by decide +kernel, by decide +kernel⟩
theorem over_none {s : Spot} {l : List Spot} (h : l.find? (hit s) = none) : overOf (s :: l) = overOf l := by
  show (match l.find? (hit s) with | some t => some (s, t) | none => overOf l) = _
  rw [h]
theorem over_some {s t : Spot} {l : List Spot} (h : l.find? (hit s) = some t) : overOf (s :: l) = some (s, t) := by
  show (match l.find? (hit s) with | some t => some (s, t) | none => overOf l) = _
  rw [h]
theorem each_drop {α β : Type} {R : α → β → Prop} : ∀ {xs : List α} {ys : List β} (n : Nat), PySem.W.EachIs R xs ys → PySem.W.EachIs R (xs.drop n) (ys.drop n)
  | _, _, 0, h => h
  | _, _, n + 1, .nil => .nil
  | _, _, n + 1, .cons _ t => each_drop n t
section
variable {P : Program} {w : World} {K : PySem.W.Frag} {mg : Str → Option Value} {base : Heap}
theorem ok_checkO {f CO : Addr} {fd : FuncData} (F : Fun K "check_overs" "check_overs" sCheckO f fd) (T : Bi mg) (TM : mg "max" = none) (S : Err2 P w K mg base "Over" CO "p" "q") :
    FnOk P w K mg base (L2.CX P w) 5 f fd ["spots"] (spCheckO K CO) := by
  refine F.okX scCheckO (fun vs H Q E h => ?_) (fun cdv A outer s H vs Q E hr h => ?_)
  · obtain ⟨L, xs, sps, rfl, _⟩ := h
    rfl
  · obtain ⟨L, xs, sps, rfl, hL, hxs, few, qe, q⟩ := h
    have hu := hu_of hr
    refine ⟨_, (pss_one (ps_for (passes_of rfl) rfl (pi_enum (by rfl) T.enumerate (pa_cons (pv 0) pa_nil)) (pg_tup rfl (pgs_cons (pg_name (i := 1) scCheckO.nd rfl (.inl rfl)) (pgs_cons (pg_tup rfl (pgs_cons (pg_name (i := 2) scCheckO.nd rfl (.inl rfl)) (pgs_cons (pg_name (i := 3) scCheckO.nd rfl (.inl rfl)) (pgs_cons (pg_name (i := 4) scCheckO.nd rfl (.inl rfl)) pgs_nil)))) pgs_nil))) (pss_one (ps_for (passes_of rfl) rfl (pi_list (pe_slice sl_list (pv 0) (po_some (pe_op op_add (pv 1) pe_int)) po_none)) (pg_tup rfl (pgs_cons (pg_name (i := 5) scCheckO.nd rfl (.inl rfl)) (pgs_cons (pg_name (i := 6) scCheckO.nd rfl (.inl rfl)) (pgs_cons (pg_name (i := 7) scCheckO.nd rfl (.inl rfl)) pgs_nil)))) (pss_one (ps_if (pt_cmpR op_lt (pe_callB (call_max2 rfl) (by rfl) TM (by decide +kernel) (pa_cons (pv 3) (pa_cons (pv 6) pa_nil))) (pe_callB (call_min2 rfl) (by rfl) T.min (by decide +kernel) (pa_cons (pv 4) (pa_cons (pv 7) pa_nil))) (nomark _)) (pss_one (ps_err2 rfl (takes_of rfl rfl rfl rfl) S hr (by decide) (pv 2) (pv 5))) pss_nil)))))), ?_⟩
    have lx : xs.length = sps.length := hxs.length
    refine ⟨_, rfl, L, xs, rfl, SqL.of hL, ?_⟩
    refine for_it walk_enum (fun i σ H4 => ∃ (w1 w2 w3 w4 w5 w6 w7 : Option V), σ = [some (.ref L), w1, w2, w3, w4, w5, w6, w7] ∧ Same H H4 ∧ overOf sps = overOf (sps.drop i))
      ⟨none, none, none, none, none, none, none, rfl, fun _ _ e => e, rfl⟩ (fun i σ H4 _ ⟨_, _, _, _, _, _, _, _, s4, _⟩ => SqL.of (s4 _ _ hL)) ?_ ?_
    · rintro i y σ H4 H4' hi ⟨w1, w2, w3, w4, w5, w6, w7, rfl, s4, ov⟩ ⟨TT, y1, y2, rfl, hT, rfl, hy1, hy2⟩
      cases hy1
      have hy2 : xs[i]? = some y2 := hy2
      obtain ⟨sp, hsp, hv⟩ := eachs_get hxs hy2
      have i2 : i < sps.length := (List.getElem?_eq_some_iff.mp hsp).1
      have sT := same_new (o := .tup [V.int (i : Nat), y2]) hT
      have hT5 : upd H4 TT (.tup [V.int (i : Nat), y2]) TT = some (.tup [V.int (i : Nat), y2]) := upd_same
      generalize upd H4 TT (.tup [V.int (i : Nat), y2]) = H5 at sT hT5 ⊢
      have s5 := s4.trans sT
      obtain ⟨t, rfl, ht⟩ := spotV_s s5 hv
      refine ⟨TT, _, rfl, SqT.of hT5, rfl, _, _, rfl, _, _, rfl, ⟨t, _, rfl, SqT.of ht, rfl, _, _, rfl, _, _, rfl, _, _, rfl, rfl, rfl, ?_⟩⟩
      refine ⟨_, rfl, _, rfl, _, _, rfl, rfl, _, rfl, L, xs, rfl, SqL.of (s5 _ _ hL), fun a2 ha2 => ?_⟩
      have er : ((i : Nat) : Int) + 1 = ((i + 1 : Nat) : Int) := by omega
      rw [er, cut_from (by omega)] at *
      have s6 := same_new (o := .lst (xs.drop (i + 1))) ha2
      have hl6 : upd H5 a2 (.lst (xs.drop (i + 1))) a2 = some (.lst (xs.drop (i + 1))) := upd_same
      generalize upd H5 a2 (.lst (xs.drop (i + 1))) = H6 at s6 hl6 ⊢
      have s06 := s5.trans s6
      have hd : sps.drop i = sp :: sps.drop (i + 1) := by
        have : sps[i] = sp := (List.getElem?_eq_some_iff.mp hsp).2
        rw [← this, ← List.drop_eq_getElem_cons i2]
      rw [hd] at ov
      have hds := each_drop (i + 1) hxs
      have ld : (xs.drop (i + 1)).length = (sps.drop (i + 1)).length := hds.length
      refine ⟨a2, rfl, ⟨_, SqL.of hl6⟩, ?_⟩
      refine for_it (walk_list (xs := xs.drop (i + 1))) (fun j σ H7 => ∃ (w5 w6 w7 : Option V), σ = [some (.ref L), some (.int ((i : Nat) : Int)), some (.str sp.1), some (.int sp.2.1), some (.int sp.2.2), w5, w6, w7] ∧ Same H6 H7 ∧ ((sps.drop (i + 1)).take j).find? (hit sp) = none)
        ⟨_, _, _, rfl, fun _ _ e => e, rfl⟩ (fun j σ H7 _ ⟨_, _, _, _, s7, _⟩ => SqL.of (s7 _ _ hl6)) ?_ ?_
      · rintro j z σ H7 H7' hj ⟨w5, w6, w7, rfl, s7, nh⟩ ⟨rfl, hz⟩
        obtain ⟨s2, hs2, hv2⟩ := eachs_get hds hz
        have s07 := s06.trans s7
        obtain ⟨t2, rfl, ht2⟩ := spotV_s s07 hv2
        refine ⟨t2, _, rfl, SqT.of ht2, rfl, _, _, rfl, _, _, rfl, _, _, rfl, rfl, ?_⟩
        refine ⟨_, rfl, _, rfl, _, _, rfl, _, rfl, _, rfl, _, _, rfl, _, _, rfl, rfl, _, rfl, ?_⟩
        show if hit sp s2 = true then _ else _
        cases hh : hit sp s2 with
        | true => exact iteT ⟨_, rfl, _, rfl, err_go2 fun tp dx' htp hdx => qe sp s2 (ov.trans (over_some (find_at nh hs2 hh))) _ dx' (s07.trans (same_new htp)) hdx⟩
        | false => exact iteF ⟨_, _, _, rfl, s7, find_step nh hs2 hh⟩
      · rintro σ H7 ⟨w5, w6, w7, rfl, s7, nh⟩
        rw [ld, List.take_length] at nh
        exact ⟨_, _, _, _, _, _, _, rfl, s06.trans s7, ov.trans (over_none nh)⟩
    · rintro σ H4 ⟨w1, w2, w3, w4, w5, w6, w7, rfl, s4, ov⟩
      rw [lx, List.drop_length] at ov
      exact q ov H4 s4
end
end DR

namespace DR
open PySem PySem.Spec PyProof.Rows L2
/-! ### lambdas that are kept -/
/-- the function that a lambda made stands at f, its code at c' -/
def LamO (f c' : Addr) (q : Str) (params : Arguments) (body : Expr) (scope : Scope) (cl : List (Str × Addr)) : HO := .ext fun h => ∃ pm ctv : Value, h.get? f = some (PySem.W.kla_obj "<lambda>" q params body scope cl pm c' ctv)
theorem lamO_kind {f c' : Addr} {q : Str} {params : Arguments} {body : Expr} {scope : Scope} {cl : List (Str × Addr)} : ∃ φ, LamO f c' q params body scope cl = .ext φ := ⟨_, rfl⟩
theorem lamO_ok {prog : Program} {w : World} {H : Hp} {h : Heap} {f c' : Addr} {q : Str} {params : Arguments} {body : Expr} {scope : Scope} {cl : List (Str × Addr)} {pm ctv : Value} (e : h.get? f = some (PySem.W.kla_obj "<lambda>" q params body scope cl pm c' ctv)) : ObjOk prog w H h f (LamO f c' q params body scope cl) :=
  ⟨⟨pm, ctv, e⟩, ⟨_, e⟩, fun h1 h2 ⟨a, b, z⟩ st => ⟨a, b, st _ z⟩⟩
section
variable {X : Cx} {pins : List (Addr × Obj)} {σ : L2.St} {H : Hp} {s : Shared}
theorem lam_keep {T : List (Addr × Str)} {c P : Addr} {params : Arguments} {body : Expr} {scope : Scope} {pos : Pos} {E : Value → Shared → Prop} {Q : Value → Shared → Prop} (I : Inv X pins σ H s) (TB : LamX.TabB X.base X.mg c P) (hcode : X.env.code = .ref c)
    (hm : (P, X.env.qual ++ "<lambda>") ∈ T) (hu : ∀ p ∈ T, p.1 = P → p.2 = X.env.qual ++ "<lambda>") (tabs : LamX.Tabs T H) (hdef : defaultsOf params X.env = ([], [])) (hfree : ∀ y ∈ scope.names, y.2 = .free → ∃ c, X.env.cells.lookup y.1 = some c)
    (go : ∀ (f c' : Addr) (H1 : Hp) (s' : Shared), LamX.ExtN H H1 → LamX.Tabs T H1 → H1 f = none → H1 c' = some (LamX.CodeO c' (X.env.qual ++ "<lambda>")) →
      Inv X pins σ (upd H1 f (LamO f c' (X.env.qual ++ "<lambda>") params body scope (cloFrom X.env.cells scope.names []))) s' → Q (.ref f) s') :
    wpAny (model X.prog X.w) X.A (eval (.Lambda params body scope pos) X.env) Q E s := by
  obtain ⟨tb, eP, okT, told⟩ := tabs _ hm
  have gP : s.heap.get? P = some { cls := .none, data := .fields tb } := I.hok P _ eP
  refine PySem.W.kla_eval hdef ?_
  rcases hcd : codeAmong pos tb.toList with _ | cv
  · refine PySem.W.kla_makeFunction (P := P) (c := c) (ps := tb) (mg := X.mg) (closure_ok hfree) I.ok.glob (I.mod.glob.keeps I.bk) hcode (TB.code.keeps I.bk) gP okT hcd TB.gP (TB.bm.keeps I.bk) fun c' ctv hN tk grow above below rec atP => ?_
    obtain ⟨_, oc, vs, t, ec, goc, dc, vc⟩ := rec
    cases ec
    have free' : H c' = none := I.hok.fresh above
    have J := LamX.inv_table (q := X.env.qual ++ "<lambda>") (h' := hN) (t' := tk) (more := #[rawInt pos.line, rawInt pos.col, .ref c']) I eP grow atP above ⟨oc, vs, t, goc, dc, vc⟩
    have fresh : upd (upd H P (.tbl (tb ++ #[rawInt pos.line, rawInt pos.col, .ref c']))) c' (LamX.CodeO c' (X.env.qual ++ "<lambda>")) hN.objs.size = none := J.hok.fresh (Nat.le_refl _)
    have J2 := J.laid (t' := tk) (o := LamO hN.objs.size c' (X.env.qual ++ "<lambda>") params body scope (cloFrom X.env.cells scope.names [])) (fun b u e => Heap.get?_push_of_some (PySem.W.kla_obj "<lambda>" (X.env.qual ++ "<lambda>") params body scope (cloFrom X.env.cells scope.names []) ((X.mg "__name__").getD .none) c' ctv) e) (Nat.le_refl _) (lamO_ok (Heap.get?_push_size _ rfl))
    have keepN : LamX.ExtN H (upd (upd H P (.tbl (tb ++ #[rawInt pos.line, rawInt pos.col, .ref c']))) c' (LamX.CodeO c' (X.env.qual ++ "<lambda>"))) := fun b o e notT => by
      have bP : b ≠ P := fun z => by
        rw [z, eP] at e
        exact notT tb (Option.some.inj e).symm
      rw [upd_ne (ne_of_none e free'), upd_ne bP]
      exact e
    refine go _ c' _ _ keepN (fun p hp => ?_) fresh upd_same J2
    by_cases isP : p.1 = P
    · rw [hu p hp isP, isP]
      have eL : (tb ++ #[rawInt pos.line, rawInt pos.col, .ref c']).toList = tb.toList ++ [rawInt pos.line, rawInt pos.col, .ref c'] := by simp
      refine ⟨tb ++ #[rawInt pos.line, rawInt pos.col, .ref c'], ?_, ?_, fun p' cv' q' => ?_⟩
      · rw [upd_ne (ne_of_none eP free')]
        exact upd_same
      · rw [eL]
        exact PySem.TriplesOk_snoc _ _ _ _ okT
      · rw [eL] at q'
        rcases LamX.among_app _ okT q' with old | new
        · obtain ⟨c0, z1, z2⟩ := told p' cv' old
          exact ⟨c0, z1, keepN _ _ z2 LamX.codeO_ne⟩
        · exact ⟨c', new, upd_same⟩
    · obtain ⟨ps2, a1, a2, a3⟩ := tabs p hp
      refine ⟨ps2, ?_, a2, fun p' cv' q' => ?_⟩
      · rw [upd_ne (ne_of_none a1 free'), upd_ne isP]
        exact a1
      · obtain ⟨c0, z1, z2⟩ := a3 p' cv' q'
        exact ⟨c0, z1, keepN _ _ z2 LamX.codeO_ne⟩
  · obtain ⟨c', ecv, hco⟩ := told pos cv hcd
    subst ecv
    refine PySem.W.kla_makeFunctionHit (P := P) (c := c) (ps := tb) (mg := X.mg) (closure_ok hfree) I.ok.glob (I.mod.glob.keeps I.bk) hcode (TB.code.keeps I.bk) gP okT hcd (TB.bm.keeps I.bk) fun ctv hN tk grow big => ?_
    have J := I.laid (t' := tk) (a := hN.objs.size) (o := LamO hN.objs.size c' (X.env.qual ++ "<lambda>") params body scope (cloFrom X.env.cells scope.names [])) (h' := hN.push (PySem.W.kla_obj "<lambda>" (X.env.qual ++ "<lambda>") params body scope (cloFrom X.env.cells scope.names []) ((X.mg "__name__").getD .none) c' ctv))
      (fun b u e => Heap.get?_push_of_some _ (grow b u e)) big (lamO_ok (Heap.get?_push_size _ rfl))
    exact go _ c' H _ (LamX.ExtN.refl H) tabs (I.hok.fresh big) hco J
end
/-- a lambda as a value that is kept -/
def tLamV (T : List (Addr × Str)) (q : Str) (params : Arguments) (body : Expr) (scope : Scope) (cl : List (Str × Addr)) : TE := fun _ H Q => LamX.Tabs T H ∧ ∀ f c' H1, LamX.ExtN H H1 → LamX.Tabs T H1 → H1 f = none → H1 c' = some (LamX.CodeO c' q) → Q (.ref f) (upd H1 f (LamO f c' q params body scope cl))
theorem pe_lamV {X : Cx} {T : List (Addr × Str)} {c P : Addr} {params : Arguments} {body : Expr} {scope : Scope} {pos : Pos} (TB : LamX.TabB X.base X.mg c P) (hcode : X.env.code = .ref c) (hm : (P, X.env.qual ++ "<lambda>") ∈ T) (hu : ∀ p ∈ T, p.1 = P → p.2 = X.env.qual ++ "<lambda>")
    (L : LamX.LamS X.env.scope scope) (hdef : defaultsOf params X.env = ([], [])) : PE X (.Lambda params body scope pos) (tLamV T (X.env.qual ++ "<lambda>") params body scope (cloFrom X.env.cells scope.names [])) := by
  refine ⟨fun pins s σ H Q I h => ?_⟩
  exact lam_keep I TB hcode hm hu h.1 hdef (L.has I.ok) fun f c' H1 s' e t fn hc J => ⟨.ref f, _, J, rfl, h.2 f c' H1 e t fn hc⟩
/-- what is known of one thing is forgotten -/
theorem inv_forget {X : Cx} {pins : List (Addr × Obj)} {σ : L2.St} {H : Hp} {s : Shared} {f : Addr} {φ : Heap → Prop} (I : Inv X pins σ H s) (hf : H f = some (.ext φ)) : Inv X pins σ (del H f) s := by
  have ne : ∀ b o, H b = some o → (∀ ψ, o ≠ .ext ψ) → b ≠ f := fun b o e n z => by
    rw [z, hf] at e
    exact n φ (Option.some.inj e).symm
  have nn : ∀ b, H b = none → del H f b = none := fun b e => by
    unfold del
    split
    · rfl
    · exact e
  refine I.step (h' := s.heap) (g' := s.gens) (d' := s.drawn) (t' := s.toks) (ch := []) (fun b hb => absurd hb (by simp)) (fun b o _ _ _ e _ => e) (fun b o _ _ _ e _ => ⟨o.slots, e⟩) (fun b o _ _ e => nn b e) (fun b o _ e => ⟨o, e⟩) (fun b xs e => ?_) (fun b o u e => ?_) (fun b ps e => ⟨#[], ?_⟩) (fun m z => z) (fun b u e => ?_) I.bare
  · rw [del_ne (ne b _ e (fun ψ z => by cases z))]
    exact e
  · rw [del_ne (ne b _ e (fun ψ z => by cases z))]
    exact e
  · rw [del_ne (ne b _ e (fun ψ z => by cases z)), e]
    simp
  · by_cases bf : b = f
    · rw [bf, del_same] at e
      cases e
    · rw [del_ne bf] at e
      refine (I.hok b u e).stay (fun d v _ z => z) (fun d z => ?_) fun d xs z => ?_
      · rw [del_ne (ne d _ z (fun ψ y => by cases y))]
        exact z
      · rw [del_ne (ne d _ z (fun ψ y => by cases y))]
        exact z
end DR

namespace DR
open PySem PySem.Spec PyProof.Rows L2
/-! ### a kept lambda of one parameter, called -/
structure Lam1 (sc scope : Scope) (a : Str) : Prop where
  knd : scope.kind = .function
  nco : scope.isCoroutine = false
  ngn : scope.isGenerator = false
  par : scope.names.lookup a = some .local
  own : ∀ y ∈ scope.names, (y.2 = .local → y.1 = a) ∧ y.2 ≠ .cell
  fre : ∀ y ∈ scope.names, y.2 = .free → sc.names.lookup y.1 = some .cell ∨ sc.names.lookup y.1 = some .free
def lam1B (sc scope : Scope) (a : Str) : Bool :=
  decide (scope.kind = .function) && (!scope.isCoroutine && (!scope.isGenerator && (decide (scope.names.lookup a = some .local) && scope.names.all fun y => (!decide (y.2 = .local) || decide (y.1 = a)) && (!decide (y.2 = .cell) && (!decide (y.2 = .free) || (decide (sc.names.lookup y.1 = some .cell) || decide (sc.names.lookup y.1 = some .free)))))))
theorem lam1_by {sc scope : Scope} {a : Str} (h : lam1B sc scope a = true) : Lam1 sc scope a := by
  unfold lam1B at h
  simp only [Bool.and_eq_true, Bool.or_eq_true, Bool.not_eq_true', decide_eq_true_eq, decide_eq_false_iff_not, List.all_eq_true] at h
  obtain ⟨k1, k2, k3, k4, k5⟩ := h
  refine ⟨k1, k2, k3, k4, fun y m => ⟨fun e => ?_, (k5 y m).2.1⟩, fun y m e => ?_⟩
  · rcases (k5 y m).1 with z | z
    · exact absurd e z
    · exact z
  · rcases (k5 y m).2.2 with z | z
    · exact absurd e z
    · exact z
section
variable {X : Cx} {pins : List (Addr × Obj)} {σ : L2.St} {H : Hp} {s : Shared}
theorem lam1_start {A : Around} {E : XK} {scope : Scope} {a : Str} {f c' : Addr} {g : Heap} {tk j : Nat} {v : V} {u : Value} (I : Inv X pins σ H s) (L : Lam1 X.env.scope scope a) (e0 : Env0 X.prog X.w X.K X.mg X.base A X.stack s H) (hd : A.handled = none)
    (hns : g.Ns s.heap.objs.size fun y => ([(a, u)] : List (Str × Value)).reverse.lookup y) (kp : ∀ b o, s.heap.get? b = some o → g.get? b = some o) (hj : X.N[j]? = some a) (nod : X.N.Nodup) (rv : RelV v u) :
    Inv (LamX.lamCx X A X.stack s H E scope f c') [] (σ.set j (some v)) H { s with heap := g, toks := tk } := by
  have toCell : ∀ y ∈ scope.names, y.2 = .free → ∃ c, X.env.cells.lookup y.1 = some c := fun y m e => I.ok.has _ (L.fre y m e)
  have same : ∀ {y : Str} {c : Addr}, (cloFrom X.env.cells scope.names []).lookup y = some c → X.env.cells.lookup y = some c := fun {y c} e => by
    rcases cloFrom_mem (PySem.mem_of_lookup e) with m | ⟨m1, m2⟩
    · cases m
    · obtain ⟨d, q⟩ := toCell _ m1 rfl
      have q : X.env.cells.lookup y = some d := q
      obtain rfl : c = d := by
        rw [m2, q]
        rfl
      exact q
  have find : ∀ {y : Str}, scope.names.lookup y = some .free → ∃ c, (cloFrom X.env.cells scope.names []).lookup y = some c := fun {y} q => mem_lookup (cloFrom_has (cells := X.env.cells) (acc := []) (PySem.mem_of_lookup q : (y, NameKind.free) ∈ scope.names))
  have stays : ∀ {c : Addr} {x : Option Value}, s.heap.IsCell c x → g.IsCell c x := fun {c x} ⟨o, h1, h2⟩ => ⟨o, kp _ _ h1, h2⟩
  have nothing : ∀ b : Addr, b ∉ (LamX.lamCx X A X.stack s H E scope f c').ex := fun b z => (List.not_mem_nil (show b ∈ ([] : List Addr) from z)).elim
  refine ⟨⟨e0.mod, L.knd, rfl, rfl, Nat.le_refl _, fun y z c q1 q2 => I.ok.inj y z c (same q1) (same q2), fun y q => ?_, fun y c q _ => ?_, fun _ => hd, Around.frames_deeper e0.frames, .inr ⟨rfl, rfl⟩, fun b z => absurd z (nothing b), e0.bs, e0.bsz, fun b _ _ => nothing b,
      fun b z => absurd z (nothing b), e0.funs, e0.frf⟩,
    rfl, e0.bare, Un.kept kp, ⟨_, hns, fun i y v' q1 q2 q3 => ?_⟩, fun y c q => ?_, e0.hok.fresh (Nat.le_refl _), fun y c q => I.freeC y c (same q), fun q m => (List.not_mem_nil (show q ∈ ([] : List (Addr × Obj)) from m)).elim, e0.hok.kept kp, ?_⟩
  · rcases (show scope.names.lookup y = some .cell ∨ scope.names.lookup y = some .free from q) with q | q
    · exact absurd rfl (L.own _ (PySem.mem_of_lookup q)).2
    · exact find q
  · have q : false = true := q
    cases q
  · rcases (show Vis scope y from q3) with k | k | k
    · obtain rfl : y = a := (L.own _ (PySem.mem_of_lookup k)).1 rfl
      have q1 : X.N[i]? = some y := q1
      have hi : i < X.N.length := (List.getElem?_eq_some_iff.mp q1).1
      obtain rfl : i = j := by
        exact (List.getElem?_inj hi nod).mp (q1.trans hj.symm)
      have : i < σ.length := by rw [I.len]; exact hi
      rw [List.getElem?_set_self this] at q2
      obtain rfl : v = v' := Option.some.inj (Option.some.inj q2)
      refine ⟨u, rv, .inl ⟨k, ?_⟩⟩
      show ([(y, u)] : List (Str × Value)).reverse.lookup y = some u
      simp
    · exact absurd rfl (L.own _ (PySem.mem_of_lookup k)).2
    · have ne : j ≠ i := fun z => by
        subst z
        obtain rfl : y = a := Option.some.inj ((show X.N[j]? = some y from q1).symm.trans hj)
        rw [L.par] at k
        cases k
      rw [List.getElem?_set_ne ne] at q2
      obtain ⟨m, hn, look⟩ := I.loc
      have vis : Vis X.env.scope y := .inr (L.fre _ (PySem.mem_of_lookup k) rfl)
      obtain ⟨w', r, q⟩ := look i y v' q1 q2 vis
      obtain ⟨c2, h2⟩ := find k
      have c1 := same h2
      refine ⟨w', r, .inr ⟨.inr k, c2, h2, ?_⟩⟩
      rcases q with ⟨k', _⟩ | ⟨_, c3, e', z⟩
      · have k' : X.env.scope.names.lookup y = some .local := k'
        rcases L.fre _ (PySem.mem_of_lookup k) rfl with k2 | k2
        · rw [show X.env.scope.names.lookup y = _ from k2] at k'
          cases k'
        · rw [show X.env.scope.names.lookup y = _ from k2] at k'
          cases k'
      · obtain rfl : c2 = c3 := Option.some.inj (c1.symm.trans e')
        exact stays z
  · obtain ⟨x, z⟩ := I.cell y c (same q)
    exact ⟨x, stays z⟩
  · rw [List.length_set]
    exact I.len
/-- it is called from within what is built in -/
theorem lam1_call {params : Arguments} {body : Expr} {scope : Scope} {a : Str} {f c' : Addr} {j k : Nat} {v : V} {u : Value} {tb : TE} {Q : VK} (I : Inv X pins σ H s) (L : Lam1 X.env.scope scope a) (hf : H f = some (LamO f c' (X.env.qual ++ "<lambda>") params body scope (cloFrom X.env.cells scope.names [])))
    (hc : H c' = some (LamX.CodeO c' (X.env.qual ++ "<lambda>"))) (hb : ∀ (pm ctv x : Value), bindArgs (PySem.W.kla_fn "<lambda>" (X.env.qual ++ "<lambda>") params body scope (cloFrom X.env.cells scope.names []) pm (.ref c') ctv) ⟨[x], []⟩ = pure [(a, x)])
    (hr : Room (k + 2) X.A) (hbody : ∀ (A : Around) (outer : List Env) (s : Shared) (H : Hp) (E : XK), Room k (A.deeper (LamX.lamEnv X scope s.heap.objs.size f c')) → PE (LamX.lamCx X A outer s H E scope f c') body tb)
    (hj : X.N[j]? = some a) (nod : X.N.Nodup) (rv : RelV v u) (ht : tb (σ.set j (some v)) H Q) : wpAny (model X.prog X.w) X.A.in1 (call (.ref f) [u]) (EP X pins σ Q) (fun _ _ => False) s := by
  obtain ⟨⟨pm, ctv, of⟩, _⟩ := I.hok f _ hf
  obtain ⟨⟨oc, vs, t, hoc, hdc, hvc⟩, _, _⟩ := I.hok c' _ hc
  have e1 := I.env0.in1
  have hr1 : Room (k + 1) X.A.in1 := hr.in1
  have go : codeAny (model X.prog X.w) X.A.in1 (.call (.ref f) ⟨[u], []⟩) (CR (L2.CX X.prog X.w) X.stack X.prog X.w H s Q (fun _ _ _ => False)) s := by
    refine PySem.W.kla_callFunE hr1.depth of rfl L.nco L.ngn rfl ⟨c', oc, vs, t, rfl, hoc, hdc, hvc⟩ ?_
    rw [hb]
    refine wpAny_pure (wpAny_newFunctionEnv (fun y hy => (L.own y hy).2) (fun y hy => ?_) (fun g hns hsb => ⟨I.nolimit.fresh _ hsb, ?_⟩) L.knd)
    · rw [List.mem_singleton.mp hy]
      exact L.par
    have kp : ∀ b o, s.heap.get? b = some o → g.get? b = some o := fun b o e => hsb.extBut b o (Nat.ne_of_lt (Heap.lt_size e)) (Heap.get?_push_of_some _ e)
    have J : Inv (LamX.lamCx X X.A.in1 X.stack s H (fun _ _ _ => False) scope f c') [] (σ.set j (some v)) H { s with heap := g, toks := s.toks + ([(a, u)] : List (Str × Value)).length } := lam1_start I L e1 hr1.hd hns kp hj nod rv
    show codeAny _ _ (.expr body (LamX.lamEnv X scope s.heap.objs.size f c')) _ _
    refine PySem.W.kla_codeExpr (wpAny_mono ((hbody _ _ s H _ (hr1.deeper _)).run [] _ _ H Q J ht) (fun x s' hq => ?_) fun e s' hq => hq)
    obtain ⟨w', H', J', r', q⟩ := hq
    exact ⟨w', H', J'.os, J'.bare, J'.base, J'.hok, r', q⟩
  refine wpAny_call (codeAny_mono go fun r s' hq => ?_)
  cases r with
  | ok fl =>
    cases fl with
    | ret x => exact I.after hq
    | next => exact hq.elim
    | brk => exact hq.elim
    | cont => exact hq.elim
  | error e =>
    obtain ⟨_, _, _, _, _, _, _, _, _, _, _, _, z⟩ := hq
    exact z.elim
end
theorem pe_lam1 {X : Cx} {T : List (Addr × Str)} {c P : Addr} {params : Arguments} {body : Expr} {scope : Scope} {pos : Pos} {a : Str} (TB : LamX.TabB X.base X.mg c P) (hcode : X.env.code = .ref c) (hm : (P, X.env.qual ++ "<lambda>") ∈ T) (hu : ∀ p ∈ T, p.1 = P → p.2 = X.env.qual ++ "<lambda>")
    (L : Lam1 X.env.scope scope a) (hdef : defaultsOf params X.env = ([], [])) : PE X (.Lambda params body scope pos) (tLamV T (X.env.qual ++ "<lambda>") params body scope (cloFrom X.env.cells scope.names [])) := by
  refine ⟨fun pins s σ H Q I h => ?_⟩
  exact lam_keep I TB hcode hm hu h.1 hdef (fun y hy e => I.ok.has _ (L.fre y hy e)) fun f c' H1 s' e t fn hc J => ⟨.ref f, _, J, rfl, h.2 f c' H1 e t fn hc⟩
theorem sqL_ext {K : PySem.W.Frag} {H H' : Hp} {a : Addr} {xs : List V} (e : LamX.ExtN H H') (h : SqL K H a xs) : SqL K H' a xs :=
  h.imp (fun h => h.imp (fun h => e _ _ h (by intro x z; cases z)) (fun ⟨o, h⟩ => ⟨o, e _ _ h (by intro x z; cases z)⟩)) id
theorem sqT_ext {K : PySem.W.Frag} {H H' : Hp} {a : Addr} {xs : List V} (e : LamX.ExtN H H') (h : SqT K H a xs) : SqT K H' a xs :=
  h.imp (fun h => h.imp (fun h => e _ _ h (by intro x z; cases z)) (fun ⟨o, h⟩ => ⟨o, e _ _ h (by intro x z; cases z)⟩)) id
end DR

namespace DR
open PySem PySem.Spec PyProof.Rows L2
/-! ### sorted(pieces, key=lambda piece: places[piece[0]]) -/
abbrev lamPl (p1 p2 p3 p4 p5 : Pos) (k1 : Nat) : Expr := .Subscript (.Name "places" p1) (.Subscript (.Name "piece" p2) (.Constant (.int 0) k1 p3) p4) p5
section
variable {X : Cx} {pins : List (Addr × Obj)} {σ : L2.St} {H : Hp} {s : Shared}
theorem lam_pure {params : Arguments} {scope : Scope} {f c' t D : Addr} {i j k : Nat} {kvs : List (Key × V)} {z : Str} {n : Int} {y2 y3 : V} {p1 p2 p3 p4 p5 : Pos} {k1 : Nat} {E : Value → Shared → Prop} (I : Inv X pins σ H s) (L : Lam1 X.env.scope scope "piece")
    (hf : H f = some (LamO f c' (X.env.qual ++ "<lambda>") params (lamPl p1 p2 p3 p4 p5 k1) scope (cloFrom X.env.cells scope.names []))) (hc : H c' = some (LamX.CodeO c' (X.env.qual ++ "<lambda>")))
    (hb : ∀ (pm ctv x : Value), bindArgs (PySem.W.kla_fn "<lambda>" (X.env.qual ++ "<lambda>") params (lamPl p1 p2 p3 p4 p5 k1) scope (cloFrom X.env.cells scope.names []) pm (.ref c') ctv) ⟨[x], []⟩ = pure [(("piece" : Str), x)])
    (hr : Room (k + 3) X.A) (hj : X.N[j]? = some "piece") (nod : X.N.Nodup) (hi : X.N[i]? = some "places") (hfree : scope.names.lookup ("places" : Str) = some .free)
    (hσ : σ[i]? = some (some (.ref D))) (hD : H D = some (.dK kvs)) (hv : valV kvs (.inr z) = some (.int n)) (ht : H t = some (.tup [.str z, y2, y3])) :
    wpAny (model X.prog X.w) X.A.in1.in1 (call (.ref f) [.ref t]) (PySem.W.KeyPure (.int n) s) E s := by
  obtain ⟨⟨pm, ctv, of⟩, _⟩ := I.hok f _ hf
  obtain ⟨⟨oc, vs, t0, hoc, hdc, hvc⟩, _, _⟩ := I.hok c' _ hc
  have hr1 : Room (k + 1) X.A.in1.in1 := hr.in1.in1
  refine wpAny_call (codeAny_mono (R := fun r s' => ∃ x, r = .ok (.ret x) ∧ PySem.W.KeyPure (.int n) s x s') ?_ fun r s' hq => ?_)
  · refine PySem.W.kla_callFunE hr1.depth of rfl L.nco L.ngn rfl ⟨c', oc, vs, t0, rfl, hoc, hdc, hvc⟩ ?_
    rw [hb]
    refine wpAny_pure (wpAny_newFunctionEnv (fun y hy => (L.own y hy).2) (fun y hy => ?_) (fun g hns hsb => ⟨I.nolimit.fresh _ hsb, ?_⟩) L.knd)
    · rw [List.mem_singleton.mp hy]
      exact L.par
    have kp : ∀ b o, s.heap.get? b = some o → g.get? b = some o := fun b o e => hsb.extBut b o (Nat.ne_of_lt (Heap.lt_size e)) (Heap.get?_push_of_some _ e)
    have J : Inv (LamX.lamCx X X.A.in1.in1 X.stack s H (fun _ _ _ => False) scope f c') [] (σ.set j (some (.ref t))) H { s with heap := g, toks := s.toks + ([("piece", .ref t)] : List (Str × Value)).length } := lam1_start I L I.env0.in1.in1 hr1.hd hns kp hj nod rfl
    show codeAny _ _ (.expr (lamPl p1 p2 p3 p4 p5 k1) (LamX.lamEnv X scope s.heap.objs.size f c')) _ _
    refine PySem.W.kla_codeExpr ?_
    obtain ⟨m, hn, look⟩ := J.loc
    have lenj : j < σ.length := by
      rw [I.len]
      exact (List.getElem?_eq_some_iff.mp hj).1
    have ij : i ≠ j := fun z => by
      rw [z, hj] at hi
      exact absurd (Option.some.inj hi) (by decide)
    obtain ⟨u1, r1, l1⟩ := look j "piece" (.ref t) hj (List.getElem?_set_self lenj) (.inl L.par)
    obtain ⟨u2, r2, l2⟩ := look i "places" (.ref D) hi (by rw [List.getElem?_set_ne ij.symm]; exact hσ) (.inr (.inr hfree))
    obtain rfl : u1 = Value.ref t := r1
    obtain rfl : u2 = Value.ref D := r2
    have m1 : m ("piece" : Str) = some (.ref t) := by
      rcases l1 with ⟨_, q⟩ | ⟨q, _⟩
      · exact q
      · rcases q with q | q
        · have q : scope.names.lookup ("piece" : Str) = some .cell := q
          rw [L.par] at q
          cases q
        · have q : scope.names.lookup ("piece" : Str) = some .free := q
          rw [L.par] at q
          cases q
    obtain ⟨c2, h2, cell⟩ : ∃ c2, (LamX.lamEnv X scope s.heap.objs.size f c').cells.lookup ("places" : Str) = some c2 ∧ g.IsCell c2 (some (.ref D)) := by
      rcases l2 with ⟨q, _⟩ | ⟨_, c2, h2, cell⟩
      · have q : scope.names.lookup ("places" : Str) = some .local := q
        rw [hfree] at q
        cases q
      · exact ⟨c2, h2, cell⟩
    obtain ⟨_, its, rv, T1⟩ := (show ObjOk X.prog X.w H g t (.tup [.str z, y2, y3]) from J.hok t _ ht)
    cases rv with
    | @cons _ w0 _ wr r0 rr =>
      obtain ⟨b1, b2, rfl, _, _⟩ := vals2 rr
      obtain ⟨tk0, rfl⟩ := r0
      obtain ⟨z0, hd0, vs0, rel, dd⟩ := dk_rd J.hok (.inl hD)
      obtain ⟨w', hw, rw'⟩ := RelO.some_of (v := .int n) (o := valueAt vs0 (.inr z)) (by rw [← hv]; exact rel.val (.inr z))
      obtain ⟨tn, rfl⟩ := rw'
      refine PyProof.Rows.Subscript_ (wpAny_Name (wpAny_loadName_free L.knd hfree h2 cell ?_ (by decide)) (by decide))
      refine PyProof.Rows.Subscript_ (wpAny_Name (wpAny_loadName_local L.knd L.par hn m1 ?_) (by decide))
      refine wpAny_Constant_int (PyProof.Rows.item_tuple (j := 0) (x := .str z tk0) T1 (by decide) (by decide) rfl rfl ?_)
      refine tail_any dd.mapOf.typeIs slot_dict_getitem.lookup (wpAny_getItem_of (kV_is (k := .inr z) ⟨tk0, rfl⟩) dd.mapOf hw ?_) (by with_unfolding_all rfl)
      exact ⟨_, rfl, g, _, rfl, kp, .int n tn⟩
  · obtain ⟨x, rfl, q⟩ := hq
    exact q
end
end DR

namespace DR
open PySem PySem.Spec PyProof.Rows L2
theorem each_valsG {β : Type} {R : V → β → Prop} : ∀ {xs : List V} {its : List Value} {us : List β}, PySem.W.EachIs R xs us → Vals xs its → PySem.W.EachIs (fun v u => ∃ y, L2.RelV y v ∧ R y u) its us
  | _, _, _, .nil, .nil => .nil
  | _, _, _, .cons h t, .cons r rt => .cons ⟨_, r, h⟩ (each_valsG t rt)
theorem each_backG {β : Type} {R : V → β → Prop} : ∀ {its : List Value} {us : List β}, PySem.W.EachIs (fun v u => ∃ y, L2.RelV y v ∧ R y u) its us → ∃ ys, Vals ys its ∧ PySem.W.EachIs R ys us
  | _, _, .nil => ⟨[], .nil, .nil⟩
  | _, _, .cons ⟨y, r, h⟩ t => by
    obtain ⟨ys, r1, h1⟩ := each_backG t
    exact ⟨y :: ys, .cons r r1, .cons h h1⟩
theorem tupS_ext {H H' : Hp} (e : LamX.ExtN H H') : TupS H H' := fun c xs h => e _ _ h (by intro x z; cases z)
def tSrtL (K : PySem.W.Frag) (T : List (Addr × Str)) (i : Nat) (t : TA) : TE := fun σ H Q => t σ H fun vs H1 => ∃ (l D : Addr) (xs : List V) (pcs : List Pc) (kvs : List (Key × V)) (kf : Pc → Int), vs = [.ref l] ∧ H1 l = some (.lst xs) ∧ PySem.W.EachIs (PieceT H1) xs pcs ∧ LamX.Tabs T H1 ∧
  σ[i]? = some (some (.ref D)) ∧ H1 D = some (.dK kvs) ∧ (∀ q ∈ pcs, valV kvs (.inr q.1) = some (.int (kf q))) ∧
  ∀ ys p H2, LamX.ExtN H1 H2 → LamX.Tabs T H2 → H2 p = none → PySem.W.EachIs (PieceT H2) ys (pcs.mergeSort fun a b => decide (kf a ≤ kf b)) → Q (.ref p) (upd H2 p (.lst ys))
section
variable {X : Cx} {T : List (Addr × Str)} {c P : Addr} {params : Arguments} {e : Expr} {scope : Scope} {i j k : Nat} {t : TA} {p lpos kpos pos : Pos} {p1 p2 p3 p4 p5 : Pos} {k1 : Nat}
theorem pe_sortedL (hg : Gl X "sorted") (hm : X.mg "sorted" = none) (nod : X.N.Nodup) (ha : PA X [e] t) (TB : LamX.TabB X.base X.mg c P) (hcode : X.env.code = .ref c) (hmT : (P, X.env.qual ++ "<lambda>") ∈ T) (hu : ∀ p ∈ T, p.1 = P → p.2 = X.env.qual ++ "<lambda>")
    (L : Lam1 X.env.scope scope "piece") (hdef : defaultsOf params X.env = ([], [])) (hfree : scope.names.lookup ("places" : Str) = some .free)
    (hb : ∀ (cl : List (Str × Addr)) (pm cv ctv x : Value), bindArgs (PySem.W.kla_fn "<lambda>" (X.env.qual ++ "<lambda>") params (lamPl p1 p2 p3 p4 p5 k1) scope cl pm cv ctv) ⟨[x], []⟩ = pure [(("piece" : Str), x)])
    (hr : Room (k + 3) X.A) (hj : X.N[j]? = some "piece") (hi : X.N[i]? = some "places")
    (hst : backTo pos (starEach [e] X.env) = (false, eval e X.env) :: backTo pos (starEach [] X.env) := by rfl) (hpl : (backTo pos (starEach [e] X.env)).any (·.1) = false := by rfl) :
    PE X (.Call (.Name "sorted" p) [e] [⟨some "key", .Lambda params (lamPl p1 p2 p3 p4 p5 k1) scope lpos, kpos⟩] pos) (tSrtL X.K T i t) := by
  refine ⟨fun pins s σ H Q I h => ?_⟩
  have hv : bootBuiltins "sorted" = some (.builtin "sorted") := by decide +kernel
  have hk := pk_cons (nm := some "key") (kpos := kpos) (pe_lam1 (pos := lpos) TB hcode hmT hu L hdef (body := lamPl p1 p2 p3 p4 p5 k1)) (pk_nil (X := X))
  refine wpAny_Call_Name_kw (ld_blt I hg hm hv ?_ (by decide) (by decide))
  refine PyProof.Rows.callWith_kw (thn (ha.run pos pins s σ H _ I h) fun us s1 ⟨vs, H1, I1, r1, l, D, xs, pcs, kvs, kf, ev, hs, he, tabs, hσ, hD, hval, fin⟩ => ?_) hst hpl rfl rfl
  subst ev
  refine thn (hk.run pos pins s1 σ H1 (fun zs H2 => ∃ f c', zs = [.ref f] ∧ LamX.ExtN H1 H2 ∧ LamX.Tabs T H2 ∧ H2 f = some (LamO f c' (X.env.qual ++ "<lambda>") params (lamPl p1 p2 p3 p4 p5 k1) scope (cloFrom X.env.cells scope.names [])) ∧ H2 c' = some (LamX.CodeO c' (X.env.qual ++ "<lambda>"))) I1 ⟨tabs, fun f c' H2 e t2 fn hc => ?_⟩) fun ws s2 ⟨zs, H2, I2, r2, f, c', ez, e2, t2, hf, hc⟩ => ?_
  · have s2 := same_new (o := LamO f c' (X.env.qual ++ "<lambda>") params (lamPl p1 p2 p3 p4 p5 k1) scope (cloFrom X.env.cells scope.names [])) fn
    exact ⟨f, c', rfl, e.trans (LamX.ExtN.of s2), t2.ext s2, upd_same, s2 _ _ hc⟩
  subst ez
  obtain ⟨u, rfl, ru⟩ := vals1 r1
  obtain rfl : u = Value.ref l := ru
  obtain ⟨u, rfl, ru⟩ := vals1 r2
  obtain rfl : u = Value.ref f := ru
  have hs2 : SqL X.K H2 l xs := sqL_ext e2 (SqL.of hs)
  have he2 := eachs_imp (fun _ _ => pieceT_s (tupS_ext e2)) he
  have hD2 := e2 _ _ hD (by intro x z; cases z)
  obtain ⟨its, rv, hl, hz⟩ := I2.list hs2
  have hu2 := each_valsG he2 rv
  have hlen : pcs.length ≤ sizeLine := by
    rw [← he2.length]
    exact hz
  show wpAny _ _ (call (.builtin "sorted") [.ref l] [(Str.ofString "key", .ref f)]) _ _ _
  refine PySem.W.sorted_key_data (bs := pcs) (b := false) (R := fun v u => ∃ y, L2.RelV y v ∧ PieceT H2 y u) (f := .ref f) (fun q => .int (kf q)) hl.isList hu2 ?_ (.inr ?_) hlen (fun u hu => ?_) (ksk_s1 _ _) (fun _ => ksk_l1 _ _) (fun x => ksk_t1 f x) (fun v u hR hu h tk kp => ?_) fun out c0 h' tk kp hf0 hg0 hol ho => ?_
  · intro d hd d' hd'
    obtain ⟨q, _, rfl⟩ := List.mem_map.mp hd
    obtain ⟨q', _, rfl⟩ := List.mem_map.mp hd'
    rfl
  · intro d hd
    obtain ⟨q, _, rfl⟩ := List.mem_map.mp hd
    exact ⟨(by intro z; cases z), fun xs z => by cases z⟩
  · have := hr.units
    have e : (PyData.int (kf u)).depth = 0 := by simp [PyData.depth]
    omega
  · obtain ⟨y, ry, t0, b0, ws, rfl, ht, hb0, hws⟩ := hR
    obtain rfl : v = Value.ref t0 := ry
    have I3 : Inv X pins σ H2 { s2 with heap := h, toks := tk } := I2.kept (t' := tk) kp
    exact lam_pure I3 L hf hc (fun pm ctv x => hb _ pm _ ctv x) hr hj nod hi hfree hσ hD2 (hval u hu) ht
  · rw [PySem.W.dataLe_int] at ho
    obtain ⟨ys, rv', hy⟩ := each_backG ho
    have hlen' : ys.length ≤ sizeLine := by
      rw [rv'.length, hol]
      exact hlen
    exact ⟨.ref (s2.heap.objs.size + 1), upd H2 (s2.heap.objs.size + 1) (.lst ys), I2.laid (t' := tk) kp (Nat.le_succ _) ⟨hlen', out, c0, rv', hg0⟩, rfl, fin ys _ H2 e2 t2 (I2.hok.fresh (Nat.le_succ _)) hy⟩
end
end DR

namespace DR
open PySem PySem.Spec PyProof.Rows L2
/-! ### laid -/
/-- a def whose code object is known to stand at c -/
structure FunM (K : PySem.W.Frag) (x q : Str) (st : Stmt) (c f : Addr) (fd : FuncData) : Prop where
  ex : ∃ (oc : Value) (od : Option Addr) (kV doc pm : Value) (an : Option Addr) (ct : Value) (osl : Array (Option Value)),
    fd = PySem.W.fnOf x q (defArgs st) (defBody st) (defScope st) .none kV doc pm an (.ref c) ct ∧ K.lookup f = some ⟨oc, od, .func fd, osl⟩ ∧ PySem.W.codeIn K (.ref c) q = true
  kp : PySem.W.keepIn K (.ref f) = true
theorem FunM.fn {K : PySem.W.Frag} {x q : Str} {st : Stmt} {c f : Addr} {fd : FuncData} (F : FunM K x q st c f fd) : Fun K x q st f fd := by
  obtain ⟨oc, od, kV, doc, pm, an, ct, osl, e, lk, hc⟩ := F.ex
  exact ⟨⟨oc, od, kV, doc, pm, an, _, ct, osl, e, lk, hc⟩, F.kp⟩
theorem FunM.okC {CX : CXT} {P : Program} {w : World} {K : PySem.W.Frag} {mg : Str → Option Value} {base : Heap} {x q : Str} {st : Stmt} {c f : Addr} {fd : FuncData} {N ps : List Str} {k : Nat} {sp : Sp} (F : FunM K x q st c f fd) (S : FnScope N ps (defScope st)) (len : ∀ vs H Q E, sp vs H Q E → vs.length = ps.length)
    (hbody : ∀ (A : Around) (outer : List Env) (s : Shared) (H : Hp) (vs : List V) (Q : VK) (E : XK), Room k (A.deeper (envOfC q (defScope st) s.heap.objs.size f (.ref c))) → sp vs H Q E →
      ∃ t, PSs (cxOf CX P w K mg base N q (defScope st) f (.ref c) A outer s H E) (defBody st) t ∧ t { nx := fun _ H' => Q .non H', rt := Q } (start N vs) H) : FnOk P w K mg base CX (k + 1) f fd ps sp := by
  obtain ⟨oc, od, kV, doc, pm, an, ct, osl, rfl, lk, hcd⟩ := F.ex
  exact fn_of lk hcd S len fun A outer s H vs Q E hr hsp => hbody A outer s H vs Q E hr hsp
/-- the place of a piece -/
def plI (l : Pl) (z : Str) : Int := match l.lookup z with
  | some (.i n) => n
  | _ => 0
def spotsOf (l : Pl) (pcs : List Pc) : List Spot := pcs.map fun q => (q.1, plI l q.1, plI l q.1 + (q.2.length : Int))
def wv (l : Pl) (w : Int × Mul) : Int := w.1 + lin (plU (plD l)) w.2
def cells (l : Pl) (q : Pc) : List (Int × Int) := q.2.zipIdx.map fun wk => (plI l q.1 + ((wk.2 : Nat) : Int), wv l wk.1)
def putC (d : List (Key × V)) (c : Int × Int) : List (Key × V) := putK d (.inl c.1) (.int c.2)
def srt (l : Pl) (pcs : List Pc) : List Pc := pcs.mergeSort fun a b => decide (plI l a.1 ≤ plI l b.1)
def foundD (l : Pl) (pcs : List Pc) : List (Key × V) := ((srt l pcs).flatMap (cells l)).foldl putC []
theorem foldl_snoc {α β : Type} (f : β → α → β) (b : β) (l : List α) (a : α) : (l ++ [a]).foldl f b = f (l.foldl f b) a := by
  rw [List.foldl_append]
  rfl
theorem cells_len (l : Pl) (q : Pc) : (cells l q).length = q.2.length := by
  unfold cells
  rw [List.length_map, List.length_zipIdx]
theorem cells_at {l : Pl} {q : Pc} {j : Nat} {w : Int × Mul} (h : q.2[j]? = some w) : (cells l q)[j]? = some (plI l q.1 + ((j : Nat) : Int), wv l w) := by
  unfold cells
  rw [List.getElem?_map, List.getElem?_zipIdx, h]
  simp
theorem putC_len (cs : List (Int × Int)) (d : List (Key × V)) : (cs.foldl putC d).length ≤ d.length + cs.length := by
  induction cs generalizing d with
  | nil => exact Nat.le_refl _
  | cons c cs ih =>
    refine Nat.le_trans (ih (putC d c)) ?_
    have := len_putK d (.inl c.1) (.int c.2)
    show (putK d (.inl c.1) (.int c.2)).length + _ ≤ _
    rw [List.length_cons]
    omega
theorem okP_pl {l : Pl} {z : Str} (h : okP (.dct l) z = true) : l.lookup z = some (.i (plI l z)) := by
  have h : okS (l.lookup z) = true := h
  unfold plI
  cases e : l.lookup z with
  | none => rw [e] at h; cases h
  | some c =>
    rw [e] at h
    cases c with
    | i n => rfl
    | no => cases h
    | tr => cases h
    | s x => cases h
theorem ok_val {l : Pl} {z : Str} (h : okP (.dct l) z = true) : valV (plD l) (.inr z) = some (.int (plI l z)) := by
  rw [plD_val, okP_pl h]
  rfl
theorem lookup_mem {l : Pl} {z : Str} {c : Sc} (h : l.lookup z = some c) : (z, c) ∈ l := PySem.mem_of_lookup h
theorem bad_none {a : PlA} {pcs : List Pc} (h : plBad a pcs = none) : ∀ q ∈ pcs, okP a q.1 = true := fun q hq => by
  have := List.find?_eq_none.mp h q hq
  simpa using this
theorem srt_len (l : Pl) (pcs : List Pc) : (srt l pcs).length = pcs.length := (List.mergeSort_perm _ _).length_eq
theorem srt_mem {l : Pl} {pcs : List Pc} {q : Pc} (h : q ∈ srt l pcs) : q ∈ pcs := (List.mergeSort_perm _ _).mem_iff.mp h
theorem flat_le {l : Pl} (n : Nat) : ∀ (pcs : List Pc), (∀ q ∈ pcs, q.2.length ≤ n) → (pcs.flatMap (cells l)).length ≤ n * pcs.length
  | [], _ => Nat.zero_le _
  | q :: r, h => by
    rw [List.flatMap_cons, List.length_append, cells_len, List.length_cons]
    have := flat_le (l := l) n r fun x hx => h x (List.mem_cons_of_mem _ hx)
    have := h q (List.mem_cons_self ..)
    rw [Nat.mul_succ]
    omega
theorem placed_of {l : Pl} {pcs : List Pc} (ok : PcsOk pcs) (nb : plBad (.dct l) pcs = none) (sz : ∀ q ∈ l, ∀ n, q.2 = .i n → Sz n) {q : Pc} (hq : q ∈ pcs) {w : Int × Mul} (hw : w ∈ q.2) : Placed (plD l) w.2 := fun p hp => by
  obtain ⟨z, hz, e⟩ := ok.own q hq w hw p.1 (List.mem_map.mpr ⟨p, hp, rfl⟩)
  obtain ⟨q2, hq2, rfl⟩ := List.mem_map.mp hz
  have o := bad_none nb q2 hq2
  exact ⟨q2.1, plI l q2.1, e, ok_val o, sz _ (lookup_mem (okP_pl o)) _ rfl, ((ok.each q hq).wd w hw).sz p hp⟩
theorem tabs_but {T : List (Addr × Str)} {H H' : Hp} {F0 : Addr} {kvs : List (Key × V)} (t : LamX.Tabs T H) (hF : H F0 = some (.dK kvs)) (kp : ∀ b o, b ≠ F0 → H b = some o → H' b = some o) : LamX.Tabs T H' := fun p hp => by
  obtain ⟨tb, h1, h2, h3⟩ := t p hp
  refine ⟨tb, kp _ _ (ne_of h1 hF (by intro z; cases z)) h1, h2, fun p' cv' q' => ?_⟩
  obtain ⟨c0, z1, z2⟩ := h3 p' cv' q'
  exact ⟨c0, z1, kp _ _ (ne_of z2 hF (by intro z; cases z)) z2⟩
abbrev rLenS (K : PySem.W.Frag) : List V → Hp → VK → Prop := fun xs H Q => ∃ p ys, xs = [V.ref p] ∧ (SqL K H p ys ∨ SqT K H p ys) ∧ Q (V.int (ys.length : Nat)) H
def spLaid (K : PySem.W.Frag) (C CN CO : Addr) (T : List (Addr × Str)) : Sp := fun vs H Q E => ∃ (x : Addr) (v : V) (a : PlA) (pcs : List Pc), vs = [.ref x, v] ∧ ImgV H C x pcs ∧ PlV K H v a ∧ pcs ≠ [] ∧ LamX.Tabs T H ∧
  (∀ q, plBad a pcs = some q → ∀ H' dx, Same H H' → H' dx = none → E (.ref CN) (some dx) (upd H' dx (.xd [("p", .str q.1)]))) ∧
  ∀ l, a = .dct l → plBad a pcs = none → (∀ s t, overOf (spotsOf l pcs) = some (s, t) → ∀ H' dx, Same H H' → H' dx = none → E (.ref CO) (some dx) (upd H' dx (.xd [("q", .str t.1), ("p", .str s.1)]))) ∧
    (overOf (spotsOf l pcs) = none → ∀ F H', LamX.ExtN H H' → LamX.Tabs T H' → H F = none → H' F = some (.dK (foundD l pcs)) → Q (.ref F) H')
abbrev sLaid : Stmt := topS 33
abbrev qLaid : Str := (envOfC "laid" (defScope sLaid) 0 0 .none).qual ++ "<lambda>"
theorem scLaid : FnScope ["image", "places", "p", "_", "words", "found", "k", "word", "piece"] ["image", "places"] (defScope sLaid) := ⟨rfl, rfl, rfl, by decide +kernel, rfl, by decide +kernel, by decide +kernel⟩
section
variable {P : Program} {w : World} {K : PySem.W.Frag} {mg : Str → Option Value} {base : Heap}
theorem ok_laid {f C CN CO c tb : Addr} {fd : FuncData} {T' : List (Addr × Str)} (F : FunM K "laid" "laid" sLaid c f fd) (T : Bi mg) (TB : LamX.TabB base mg c tb) (hmT : (tb, qLaid) ∈ T') (hu' : ∀ p ∈ T', p.1 = tb → p.2 = qLaid)
    (M1 : HasM P w K mg base CX0 6 C "pieces" ["self"] (spPieces K C)) (G1 : Has P w K mg base (L2.CX P w) 6 "check_places" ["image", "places"] (spCheckP K C CN)) (G2 : Has P w K mg base (L2.CX P w) 6 "check_overs" ["spots"] (spCheckO K CO)) (G3 : Has P w K mg base CX0 6 "worth_at" ["one", "places"] (spWorth K)) :
    FnOk P w K mg base (L2.CX P w) 7 f fd ["image", "places"] (spLaid K C CN CO T') := by
  refine F.okC scLaid (fun vs H Q E h => ?_) (fun A outer s H vs Q E hr h => ?_)
  · obtain ⟨x, v, a, pcs, rfl, _⟩ := h
    rfl
  · obtain ⟨x, v, a, pcs, rfl, hx, hv, ne, tabs, qe, want⟩ := h
    have hu := hu_of hr
    refine ⟨_, (pss_cons (ps_expr (pe_callH G1 hr (by rfl) (passes_call (W := fun cls d _ H => E cls d H) (takes_of rfl rfl rfl rfl) (fun _ _ _ _ h => h)) (pa_cons (pv 0) (pa_cons (pv 1) pa_nil))))
      (pss_cons (ps_expr (pe_callH G2 hr (by rfl) (passes_call (W := fun cls d _ H => E cls d H) (takes_of rfl rfl rfl rfl) (fun _ _ _ _ h => h)) (pa_cons (pe_lc (own := [("p", 2), ("_", 3), ("words", 4)]) (g := gTup K 3 (gCons (gName 2) (gCons (gName 3) (gCons (gName 4) gNil)))) (tt := tYes) (te := tTup (tCons (tVar 2) (tCons (tDGet (tVar 1) (tVar 2)) (tCons (tOp (rI0 fun i j => .int (i + j)) (tDGet (tVar 1) (tVar 2)) (tCB (rLenS K) (tCons (tVar 4) tNil))) tNil)))) rfl scLaid.nd (pi_list (pe_methH0 M1 (pv 0) hr pass0)) (blkOk_by (N := ["image", "places", "p", "_", "words", "found", "k", "word", "piece"]) (sc := defScope sLaid) (by decide +kernel)) (fun _ _ _ _ _ => (pg_tup rfl (pgs_cons (pg_name (i := 2) scLaid.nd rfl (.inl rfl)) (pgs_cons (pg_name (i := 3) scLaid.nd rfl (.inl rfl)) (pgs_cons (pg_name (i := 4) scLaid.nd rfl (.inl rfl)) pgs_nil))))) (fun _ _ _ _ _ => pts_nil) (fun _ _ _ _ _ => (pe_tup (pa_cons (pv 2) (pa_cons (pe_dget hu (pv 1) (pv 2) (fun _ _ => rfl)) (pa_cons (pe_op op_add (pe_dget hu (pv 1) (pv 2) (fun _ _ => rfl)) (pe_callB call_len_seq (by rfl) T.len (by decide +kernel) (pa_cons (pv 4) pa_nil))) pa_nil)))))) pa_nil)))
      (pss_cons (ps_set (i := 5) scLaid.nd rfl (.inl rfl) (pe_dnewK))
      (pss_cons (ps_for (passes_of rfl) rfl (pi_list (pe_sortedL (T := T') (i := 1) (j := 8) (k := 2) (by rfl) T.sorted scLaid.nd (pa_cons (pe_methH0 M1 (pv 0) hr pass0) pa_nil) TB rfl hmT hu' (lam1_by (sc := defScope sLaid) (by decide +kernel)) (by rfl) rfl (fun _ _ _ _ _ => rfl) (hr.mono (by decide)) rfl rfl)) (pg_tup rfl (pgs_cons (pg_name (i := 2) scLaid.nd rfl (.inl rfl)) (pgs_cons (pg_name (i := 3) scLaid.nd rfl (.inl rfl)) (pgs_cons (pg_name (i := 4) scLaid.nd rfl (.inl rfl)) pgs_nil)))) (pss_one (ps_for (passes_of rfl) rfl (pi_enumT (by rfl) T.enumerate (pa_cons (pv 4) pa_nil)) (pg_tup rfl (pgs_cons (pg_name (i := 6) scLaid.nd rfl (.inl rfl)) (pgs_cons (pg_name (i := 7) scLaid.nd rfl (.inl rfl)) pgs_nil))) (pss_one (ps_dput hu (pv 5) (pe_op op_add (pe_dget hu (pv 1) (pv 2) (fun _ _ => rfl)) (pv 6)) (pe_callH G3 hr (by rfl) pass0 (pa_cons (pv 7) (pa_cons (pv 1) pa_nil))) rfl)))))
      (pss_one (ps_ret (pv 5))))))), ?_⟩
    obtain ⟨ok, dx, p0, d0, r0, ys0, h1, h2, h3⟩ := id hx
    have few := ok.few
    refine ⟨_, rfl, _, rfl, x, v, a, pcs, rfl, hx, hv, qe, fun nb H1 s1 => ?_⟩
    obtain ⟨l, rfl⟩ : ∃ l, a = .dct l := by
      cases a with
      | dct l => exact ⟨l, rfl⟩
      | oth d =>
        cases pcs with
        | nil => exact absurd rfl ne
        | cons q r => cases nb
    obtain ⟨D, rfl, hD, hl, hsz⟩ := hv
    obtain ⟨qo, want⟩ := want l rfl nb
    have hD1 := s1 _ _ hD
    have hval : ∀ q ∈ pcs, valV (plD l) (.inr q.1) = some (.int (plI l q.1)) := fun q hq => ok_val (bad_none nb q hq)
    refine ⟨_, rfl, x, dx, _, rfl, s1 _ _ h1, rfl, x, pcs, rfl, imgV_s s1 hx, fun L xs H2 s2 hL0 hL hxs => ?_⟩
    refine ⟨L, rfl, ⟨_, SqL.of hL⟩, fun Dn hDn => ?_⟩
    have lx : xs.length = pcs.length := hxs.length
    have s02 := s1.trans s2
    have hD2 := s02 _ _ hD
    refine lc_it (walk_list (xs := xs)) (fun i H4 => (∀ c o, c ≠ Dn → H2 c = some o → H4 c = some o) ∧ ∃ ys, H4 Dn = some (.lst ys) ∧ ys.length = i ∧ PySem.W.EachIs (SpotV H4) ys ((spotsOf l pcs).take i))
      ⟨fun c o hc e => by rw [upd_ne hc]; exact e, [], upd_same, rfl, .nil⟩ (fun i H4 _ ⟨kp, _⟩ => SqL.of (kp _ _ (ne_of_none hL hDn) hL)) ?_ ?_
    · rintro i y H4 H4' hi ⟨kp, ys, hD4, hly, hys⟩ ⟨rfl, hy⟩
      obtain ⟨pc, hpc, hp⟩ := eachs_get hxs hy
      have s4 : Same H2 H4' := fun c o e => kp c o (ne_of_none e hDn) e
      obtain ⟨t, b, ws, rfl, ht, hb, hws⟩ := pieceT_s (TupS.of s4) hp
      have lw : ws.length = pc.2.length := hws.length
      have hDl := s4 _ _ hD2
      have g := DGet.k (k := .inr pc.1) hDl
      rw [hval _ (List.mem_of_getElem? hpc)] at g
      refine ⟨t, _, rfl, SqT.of ht, rfl, _, _, rfl, _, _, rfl, _, _, rfl, rfl, rfl, yes_go (iteT ?_)⟩
      refine ⟨_, rfl, _, rfl, _, rfl, D, _, rfl, g, _, rfl, _, rfl, D, _, rfl, g, _, rfl, b, ws, rfl, .inr (SqT.of hb), _, _, rfl, rfl, (by show 3 ≤ sizeLine; decide), fun p hp => ?_⟩
      rw [lw]
      have sp := same_new (o := .tup [V.str pc.1, V.int (plI l pc.1), V.int (plI l pc.1 + (pc.2.length : Int))]) hp
      have hD5 := sp _ _ hD4
      have ts : Same H4' (upd H4' p (.tup [V.str pc.1, V.int (plI l pc.1), V.int (plI l pc.1 + (pc.2.length : Int))])) := sp
      have pD : p ≠ Dn := fun z => by rw [z, hD4] at hp; cases hp
      refine ⟨ys, hD5, small1000 (by omega), fun c o hc e => by rw [upd_ne hc]; exact sp _ _ (kp c o hc e), ys ++ [.ref p], upd_same, by simp [hly], ?_⟩
      have esp : (spotsOf l pcs)[i]? = some (pc.1, plI l pc.1, plI l pc.1 + (pc.2.length : Int)) := by
        unfold spotsOf
        rw [List.getElem?_map, hpc]
        rfl
      rw [List.take_add_one, esp]
      have up : ∀ c xs', upd H4' p (.tup [V.str pc.1, V.int (plI l pc.1), V.int (plI l pc.1 + (pc.2.length : Int))]) c = some (.tup xs') → upd (upd H4' p (.tup [V.str pc.1, V.int (plI l pc.1), V.int (plI l pc.1 + (pc.2.length : Int))])) Dn (.lst (ys ++ [.ref p])) c = some (.tup xs') := fun c xs' e => by
        rw [upd_ne (ne_of e hD5 (by intro z; cases z))]
        exact e
      refine eachs_snoc (R := SpotV _) ⟨p, rfl, up _ _ upd_same⟩ (eachs_imp (fun v s hv => ?_) hys)
      obtain ⟨t2, e2, h2⟩ := hv
      exact ⟨t2, e2, up _ _ (sp _ _ h2)⟩
    · rintro H4 ⟨kp, ys, hD4, hly, hys⟩
      have lsp : (spotsOf l pcs).length = pcs.length := List.length_map _
      rw [lx, ← lsp, List.take_length] at hys
      have s4 : Same H2 H4 := fun c o e => kp c o (ne_of_none e hDn) e
      have s04 := s02.trans s4
      refine ⟨Dn, ys, spotsOf l pcs, rfl, hD4, hys, by omega, fun s t ho H' dx' s' hdx => qo s t ho H' dx' (s04.trans s') hdx, fun no H5 s5 => ?_⟩
      have s05 := s04.trans s5
      refine fun F0 hF0 => ?_
      have sF := same_new (o := .dK []) hF0
      have hF6 : upd H5 F0 (.dK []) F0 = some (.dK []) := upd_same
      generalize upd H5 F0 (.dK []) = H6 at sF hF6 ⊢
      have FH : H F0 = none := none_of s05 hF0
      have s06 := s05.trans sF
      refine ⟨_, rfl, x, dx, _, rfl, s06 _ _ h1, rfl, x, pcs, rfl, imgV_s s06 hx, fun L2 xs2 H7 s7 hL20 hL2 hxs2 => ?_⟩
      have s07 := s06.trans s7
      refine ⟨L2, D, xs2, pcs, plD l, fun q => plI l q.1, rfl, hL2, hxs2, tabs.ext s07, rfl, s07 _ _ hD, hval, fun zs p8 H8 e8 t8 hp8 hzs => ?_⟩
      have sp8 := same_new (o := .lst zs) hp8
      have hp9 : upd H8 p8 (.lst zs) p8 = some (.lst zs) := upd_same
      have e9 : LamX.ExtN H7 (upd H8 p8 (.lst zs)) := e8.trans (LamX.ExtN.of sp8)
      have t9 := t8.ext sp8
      have hz9 := eachs_imp (fun _ _ => pieceT_s (TupS.of sp8)) hzs
      generalize upd H8 p8 (.lst zs) = H9 at hp9 e9 t9 hz9 ⊢
      have hF9 := e9 _ _ (s7 _ _ hF6) (by intro x z; cases z)
      have hD9 := e9 _ _ (s07 _ _ hD) (by intro x z; cases z)
      have e09 : LamX.ExtN H H9 := (LamX.ExtN.of s07).trans e9
      have lz : zs.length = pcs.length := hz9.length.trans (srt_len l pcs)
      have DF : D ≠ F0 := ne_of_none hD FH
      have pF : p8 ≠ F0 := ne_of hp9 hF9 (by intro z; cases z)
      refine ⟨p8, rfl, ⟨_, SqL.of hp9⟩, ?_⟩
      refine for_it (walk_list (xs := zs)) (fun i σ H' => ∃ (w2 w3 w4 w6 w7 : Option V), σ = [some (.ref x), some (.ref D), w2, w3, w4, some (.ref F0), w6, w7, none] ∧ (∀ b o, b ≠ F0 → H9 b = some o → H' b = some o) ∧ H' F0 = some (.dK ((((srt l pcs).take i).flatMap (cells l)).foldl putC [])))
        ⟨_, _, _, _, _, rfl, fun _ _ _ e => e, hF9⟩ (fun i σ H' _ ⟨_, _, _, _, _, _, kp', _⟩ => SqL.of (kp' _ _ pF hp9)) ?_ ?_
      · rintro i y σ H' H'' hi ⟨w2, w3, w4, w6, w7, rfl, kp', hF'⟩ ⟨rfl, hy⟩
        obtain ⟨pc, hpc, hp⟩ := eachs_get hz9 hy
        have hpc : (srt l pcs)[i]? = some pc := hpc
        have hmem := srt_mem (List.mem_of_getElem? hpc)
        have pok := ok.each pc hmem
        have pfew := pok.few
        have kt : ∀ {H' : Hp}, (∀ b o, b ≠ F0 → H9 b = some o → H' b = some o) → TupS H9 H' := fun kp' c xs e => kp' _ _ (ne_of e hF9 (by intro z; cases z)) e
        obtain ⟨t, b, ws, rfl, ht, hb, hws⟩ := pieceT_s (kt kp') hp
        have lw : ws.length = pc.2.length := hws.length
        have i2 : i < pcs.length := by
          have := (List.getElem?_eq_some_iff.mp hpc).1
          rw [srt_len] at this
          exact this
        refine ⟨t, _, rfl, SqT.of ht, rfl, _, _, rfl, _, _, rfl, _, _, rfl, rfl, ?_⟩
        refine ⟨_, rfl, b, ws, rfl, SqT.of hb, ?_⟩
        refine for_it walk_enumT (fun j σ H3 => ∃ (w6 w7 : Option V), σ = [some (.ref x), some (.ref D), some (.str pc.1), some (.str "code"), some (.ref b), some (.ref F0), w6, w7, none] ∧ (∀ b o, b ≠ F0 → H'' b = some o → H3 b = some o) ∧ H3 F0 = some (.dK ((((srt l pcs).take i).flatMap (cells l) ++ (cells l pc).take j).foldl putC [])))
          ⟨_, _, rfl, fun _ _ _ e => e, by rw [List.take_zero, List.append_nil]; exact hF'⟩ (fun j σ H3 _ ⟨_, _, _, kp3, _⟩ => SqT.of (kp3 _ _ (ne_of hb hF' (by intro z; cases z)) hb)) ?_ ?_
        · rintro j z σ H3 H3' hj ⟨w6, w7, rfl, kp3, hF3⟩ ⟨TT, z1, z2, rfl, hT, rfl, hz1, hz2⟩
          cases hz1
          have hz2 : ws[j]? = some z2 := hz2
          obtain ⟨wd, hwd, hsum⟩ := eachs_get hws hz2
          have j2 : j < pc.2.length := (List.getElem?_eq_some_iff.mp hwd).1
          have sT := same_new (o := .tup [V.int (j : Nat), z2]) hT
          have hT5 : upd H3 TT (.tup [V.int (j : Nat), z2]) TT = some (.tup [V.int (j : Nat), z2]) := upd_same
          generalize upd H3 TT (.tup [V.int (j : Nat), z2]) = H5' at sT hT5 ⊢
          have kp5 : ∀ b o, b ≠ F0 → H'' b = some o → H5' b = some o := fun b o hb e => sT _ _ (kp3 b o hb e)
          have hD5 := kp5 _ _ DF (kp' _ _ DF hD9)
          have hF5 := sT _ _ hF3
          have wok := pok.wd wd (List.mem_of_getElem? hwd)
          refine ⟨TT, _, rfl, SqT.of hT5, rfl, _, _, rfl, _, _, rfl, rfl, ?_⟩
          refine ⟨_, rfl, _, rfl, z2, wd.1, wd.2, D, plD l, rfl, sumT_s (fun c xs e => kp5 c _ (ne_of e hF' (by intro z; cases z)) e) hsum, hD5, placed_of ok nb hsz hmem (List.mem_of_getElem? hwd), wok.few, fun H6' s6' => ?_⟩
          have g := DGet.k (k := .inr pc.1) (s6' _ _ hD5)
          rw [hval _ hmem] at g
          have hF6' := s6' _ _ hF5
          refine ⟨_, rfl, _, rfl, _, rfl, D, _, rfl, g, _, rfl, _, _, rfl, rfl, F0, _, rfl, DPut.k (k := .inl (plI l pc.1 + ((j : Nat) : Int))) hF6' (small1000 ?_), ?_⟩
          · have c1 := putC_len (((srt l pcs).take i).flatMap (cells l) ++ (cells l pc).take j) []
            rw [List.length_append, List.length_take] at c1
            have c2 := flat_le (l := l) 10 ((srt l pcs).take i) fun q hq => (ok.each q (srt_mem (List.mem_of_mem_take hq))).few
            rw [List.length_take] at c2
            have : min i (srt l pcs).length ≤ 10 := by rw [srt_len]; omega
            have : 10 * min i (srt l pcs).length ≤ 100 := by omega
            simp only [List.length_nil] at c1
            omega
          · refine ⟨_, _, rfl, fun b o hb e => by rw [upd_ne hb]; exact s6' _ _ (kp5 b o hb e), ?_⟩
            rw [upd_same, List.take_add_one, cells_at hwd, ← List.append_assoc]
            exact congrArg (fun z => some (HO.dK z)) (foldl_snoc putC [] (List.flatMap (cells l) (List.take i (srt l pcs)) ++ List.take j (cells l pc)) (plI l pc.1 + ((j : Nat) : Int), wv l wd)).symm
        · rintro σ H3 ⟨w6, w7, rfl, kp3, hF3⟩
          refine ⟨_, _, _, _, _, rfl, fun b o hb e => kp3 b o hb (kp' b o hb e), ?_⟩
          have e1 : ws.length = (cells l pc).length := by rw [cells_len]; exact lw
          rw [e1, List.take_length] at hF3
          rw [List.take_add_one, hpc, List.flatMap_append, hF3]
          simp
      · rintro σ H' ⟨w2, w3, w4, w6, w7, rfl, kp', hF'⟩
        rw [lz, ← srt_len l pcs, List.take_length] at hF'
        refine ⟨_, rfl, want no F0 H' (fun b o e nt => ?_) ?_ FH hF'⟩
        · exact kp' _ _ (ne_of_none e FH) (e09 _ _ e nt)
        · exact tabs_but t9 hF9 kp'
end
end DR

namespace DR
open PySem PySem.Spec PyProof.Rows L2
/-! ### dict(xs) of a list of pairs whose keys are tuples -/
def PairD (K : PySem.W.Frag) (H : Hp) (p : Addr) (kv : List Key × V) : Prop := ∃ b, SqT K H p [.ref b, kv.2] ∧ H b = some (.tup (kv.1.map kV))
def rDictT (K : PySem.W.Frag) : List V → Hp → VK → Prop := fun xs H Q => ∃ (a : Addr) (ps : List Addr) (kvs : List (List Key × V)), xs = [.ref a] ∧ SqL K H a (ps.map V.ref) ∧ Paired (PairD K H) ps kvs ∧ (kvs.map (·.1)).Nodup ∧
  ∀ p, H p = none → Q (.ref p) (upd H p (.dT kvs))
section
variable {X : Cx} {pins : List (Addr × Obj)} {σ : L2.St} {H : Hp} {s : Shared}
theorem pairsT_of (I : Inv X pins σ H s) : ∀ {ps : List Addr} {kvs : List (List Key × V)}, Paired (PairD X.K H) ps kvs →
    ∃ xs : List (List Key × Addr × Value), KT H kvs xs ∧ xs.length = ps.length ∧ ∀ (j : Nat) (q : List Key × Addr × Value), xs[j]? = some q → ∃ p, ps[j]? = some p ∧ IsTup s.heap p #[.ref q.2.1, q.2.2] ∧ (tupleKind (mixKind X.prog X.w)).is s.heap q.1 q.2.1
  | _, _, .nil => ⟨[], .nil, rfl, fun j q e => by simp at e⟩
  | _, _, .cons (a := p) (b := kv) h t => by
    obtain ⟨xs, r, hl, hp⟩ := pairsT_of I t
    obtain ⟨b, hs, hb⟩ := h
    obtain ⟨its, rv, ht, _⟩ := I.tuple hs
    obtain ⟨u, y, ei, ru, ry⟩ := vals2 rv
    subst ei
    obtain rfl : u = Value.ref b := ru
    refine ⟨(kv.1, b, y) :: xs, .cons ⟨rfl, hb, ry⟩ r, by rw [List.length_cons, List.length_cons, hl], fun j q e => ?_⟩
    cases j with
    | zero =>
      have e' : (kv.1, b, y) = q := Option.some.inj e
      subst e'
      exact ⟨p, rfl, ht, key_of I.hok hb⟩
    | succ j =>
      obtain ⟨p', e1, e2, e3⟩ := hp j q (by simpa using e)
      exact ⟨p', by simpa using e1, e2, e3⟩
theorem kt_keys {H : Hp} : ∀ {kvs : List (List Key × V)} {xs : List (List Key × Addr × Value)}, KT H kvs xs → xs.map (·.1) = kvs.map (·.1)
  | _, _, .nil => rfl
  | _, _, .cons h t => by
    rw [List.map_cons, List.map_cons, kt_keys t, h.1]
theorem kt_same {H H' : Hp} (e : Same H H') : ∀ {kvs : List (List Key × V)} {xs : List (List Key × Addr × Value)}, KT H kvs xs → KT H' kvs xs
  | _, _, .nil => .nil
  | _, _, .cons h t => .cons ⟨h.1, e _ _ h.2.1, h.2.2⟩ (kt_same e t)
theorem call_dictT {k : Nat} (hr : Room k X.A) (hcalm : X.calm = true) : CallR X (.type "dict") (rDictT X.K) := by
  intro pins s σ H xs us Q I r q
  obtain ⟨a, ps, kvs, ex, hq, hp, nd, q⟩ := q
  subst ex
  obtain ⟨u, eu, rx⟩ := vals1 r
  subst eu
  cases rx
  obtain ⟨its, rv, pl, hz⟩ := I.list hq
  have ei := refs_at rv
  subst ei
  rw [List.length_map] at hz
  obtain ⟨zs, rel, hl, hpr⟩ := pairsT_of I hp
  obtain ⟨o, n, ho, hc, hd, hdat⟩ := pl
  have nz : (zs.map (·.1)).Nodup := by
    rw [kt_keys rel]
    exact nd
  have items : PySem.PairItems s.heap (ps.map Value.ref).toArray (fun j => ps.getD j 0) (zs.map fun z => (Value.ref z.2.1, z.2.2)) := by
    refine ⟨by simp [hl], fun j kk v e => ?_⟩
    rw [List.getElem?_map] at e
    cases ez : zs[j]? with
    | none => rw [ez] at e; cases e
    | some z =>
      rw [ez] at e
      obtain ⟨rfl, rfl⟩ := Prod.mk.inj (Option.some.inj e)
      obtain ⟨p, e1, e2, e3⟩ := hpr j z ez
      have ed : ps.getD j 0 = p := by simp [e1]
      refine ⟨by simp [e1], ?_⟩
      show PairAt s.heap (ps.getD j 0) _ _
      rw [ed]
      obtain ⟨o', g1, g2, n', g3⟩ := e2
      exact .inl ⟨o', g1, g2, n', g3⟩
  refine PySem.call_dict_pairsH (knd := tupleKind (mixKind X.prog X.w)) (ps := zs) (PySem.PairArg.list a (ps.map Value.ref).toArray (fun j => ps.getD j 0) (zs.map fun z => (Value.ref z.2.1, z.2.2))) (I.ok.hd hcalm) ?_ ⟨⟨o, n, ho, hc, hd, hdat⟩, items⟩ ⟨by simp, fun i key v e => ?_⟩ ?_ ?_ fun h' tk hd' k => ?_
  · have hu := hr.units
    show X.A.units + 1 + 1 < cLine
    omega
  · have e' : (zs.map fun z => (Value.ref z.2.1, z.2.2))[i]? = some (key, v) := e
    rw [List.getElem?_map] at e'
    cases ez : zs[i]? with
    | none => rw [ez] at e'; cases e'
    | some z =>
      rw [ez] at e'
      obtain ⟨rfl, rfl⟩ := Prod.mk.inj (Option.some.inj e')
      exact ⟨z.1, z.2.1, rfl, rfl⟩
  · intro h' hk x hx
    obtain ⟨j, hj⟩ := List.mem_iff_getElem?.mp hx
    obtain ⟨p, e1, e2, e3⟩ := hpr j x hj
    refine PySem.tupleKind_stays.stays (fun b o vs n e _ => hk b o (Nat.ne_of_lt (Heap.lt_size e)) (by simp) e) e3
  · rw [List.length_map, hl]
    exact hz
  · rw [PySem.storedAllH_nil_of_nodup zs nz] at hd'
    have hm : (s.heap.objs.size == sysModules) = false := beq_eq_false_iff_ne.mpr (Nat.ne_of_gt I.big)
    have hlen : kvs.length ≤ sizeLine := by
      rw [Paired.length rel, hl]
      exact hz
    obtain ⟨od, es, ep, g1, g2, g3, g4, g5, g6⟩ := hd'
    have new : H s.heap.objs.size = none := I.hok.fresh (Nat.le_refl _)
    exact ⟨.ref s.heap.objs.size, upd H s.heap.objs.size (.dT kvs), I.laid (t' := tk) (fun b o e => k b o (by simp) e) (Nat.le_refl _) (show ObjOk X.prog X.w _ _ _ (.dT kvs) from ⟨hlen, hm, zs, kt_same (same_new new) rel, od, es, ep, g1, g2, g3, g4, g6⟩), rfl, q _ new⟩
end
end DR

namespace DR
open PySem PySem.Spec PyProof.Rows L2
/-! ### _law_worth -/
def spLWorth (K : PySem.W.Frag) : Sp := fun vs H Q _ => ∃ (v : V) (n : Int) (ps : Mul) (d : Addr) (ks : List (List Key × V)) (G : List Key → Int), vs = [v, .ref d] ∧ SumT H v n ps ∧ H d = some (.dT ks) ∧ (∀ q ∈ ps, valV ks q.1 = some (.int (G q.1)) ∧ Sz (G q.1) ∧ Sz q.2) ∧ ps.length ≤ 5 ∧ ∀ H', Same H H' → Q (.int (n + lin G ps)) H'
abbrev sLWorth : Stmt := topS 42
theorem scLWorth : FnScope ["one", "worths", "unknown", "many"] ["one", "worths"] (defScope sLWorth) := ⟨rfl, rfl, rfl, by decide +kernel, rfl, by decide +kernel, by decide +kernel⟩
abbrev sApart : Stmt := topS 43
theorem scApart : FnScope ["pool", "pieces", "at", "found", "p", "kind", "words"] ["pool", "pieces"] (defScope sApart) := ⟨rfl, rfl, rfl, by decide +kernel, rfl, by decide +kernel, by decide +kernel⟩
theorem each_perm {α β : Type} {R : α → β → Prop} {xs ys : List α} (h : ys.Perm xs) : ∀ {bs : List β}, PySem.W.EachIs R xs bs → ∃ cs, PySem.W.EachIs R ys cs ∧ cs.Perm bs := by
  induction h with
  | nil => exact fun e => ⟨_, e, .refl _⟩
  | cons x _ ih =>
    intro bs e
    cases e with
    | cons h t =>
      obtain ⟨cs, e1, e2⟩ := ih t
      exact ⟨_ :: cs, .cons h e1, e2.cons _⟩
  | swap x y l =>
    intro bs e
    cases e with
    | cons h t =>
      cases t with
      | cons h2 t => exact ⟨_, .cons h2 (.cons h t), .swap _ _ _⟩
  | trans _ _ ih1 ih2 =>
    intro bs e
    obtain ⟨cs, e1, p1⟩ := ih2 e
    obtain ⟨ds, e2, p2⟩ := ih1 e1
    exact ⟨ds, e2, p2.trans p1⟩
/-- places far from the bounds -/
def Near (l : Pl) (b : Nat) : Prop := ∀ q ∈ l, ∃ n : Int, q.2 = .i n ∧ n.natAbs ≤ b
def spApart : Sp := fun vs H Q _ => ∃ (p L : Addr) (c : Nat) (xs : List V) (pcs : List Pc), vs = [.ref p, .ref L] ∧ Pool H p c ∧ c < 50000 ∧ H L = some (.lst xs) ∧ PySem.W.EachIs (PieceT H) xs pcs ∧ PcsOk pcs ∧
  ∀ D l H' c', Dr p H H' → Pool H' p c' → c' ≤ c + 21 → H D = none → H' D = some (.dK (plD l)) → (l.map (·.1)).Perm (pcs.map (·.1)) → Near l 2000 → Q (.ref D) H'
theorem plD_put (l : Pl) {z : Str} (c : Sc) (h : z ∉ l.map (·.1)) : putK (plD l) (.inr z) c.v = plD (l ++ [(z, c)]) := by
  unfold putK plD
  rw [if_neg]
  · rw [List.map_append]
    rfl
  · intro k
    obtain ⟨p, hp, e⟩ := List.any_eq_true.mp k
    obtain ⟨y, hy, rfl⟩ := List.mem_map.mp hp
    have : y.1 = z := Sum.inr.inj (of_decide_eq_true e)
    exact h (List.mem_map.mpr ⟨y, hy, this⟩)
section
variable {P : Program} {w : World} {K : PySem.W.Frag} {mg : Str → Option Value} {base : Heap}
theorem ok_lworth {f : Addr} {fd : FuncData} (F : Fun K "_law_worth" "_law_worth" sLWorth f fd) (TS : mg "sum" = none) : FnOk P w K mg base CX0 1 f fd ["one", "worths"] (spLWorth K) := by
  refine F.ok scLWorth (fun vs H Q E h => ?_) (fun cdv A outer s H vs Q E hr h => ?_)
  · obtain ⟨v, n, ps, d, kvs, G, rfl, _⟩ := h
    rfl
  · obtain ⟨v, n, ps, d, ks, G, rfl, ⟨a, b, xs, rfl, ha, hb, hxs⟩, hd, pl, few, q⟩ := h
    have hu := hu_of hr
    refine ⟨_, (pss_one (ps_ret (pe_op op_add (pe_ix ix_tup (pv 0) pe_int (fun _ _ => rfl)) (pe_callB (cr_sum rfl) (by rfl) TS (by decide +kernel) (pa_cons (pe_lc (own := [("unknown", 2), ("many", 3)]) (g := gTup K 2 (gCons (gName 2) (gCons (gName 3) gNil))) (tt := tYes) (te := tOp (rI (fun i j => Sz i ∧ Sz j) fun i j => .int (i * j)) (tVar 3) (tDGet (tVar 1) (tVar 2))) rfl scLWorth.nd (pi_tup (pe_ix ix_tup (pv 0) pe_int (fun _ _ => rfl))) (blkOk_by (N := ["one", "worths", "unknown", "many"]) (sc := defScope sLWorth) (by decide +kernel))
      (fun _ _ _ _ _ => (pg_tup rfl (pgs_cons (pg_name (i := 2) scLWorth.nd rfl (.inl rfl)) (pgs_cons (pg_name (i := 3) scLWorth.nd rfl (.inl rfl)) pgs_nil)))) (fun _ _ _ _ _ => pts_nil) (fun _ _ _ _ _ => (pe_op op_mulS (pv 3) (pe_dget hu (pv 1) (pv 2) (fun _ _ => rfl))))) pa_nil))))), ?_⟩
    have lx : xs.length = ps.length := hxs.length
    refine ⟨_, rfl, a, _, _, _, rfl, rfl, SqT.of ha, at_of (i := 0) rfl, _, rfl, a, _, _, _, rfl, rfl, SqT.of ha, at_of (i := 1) rfl, b, rfl, ⟨_, SqT.of hb⟩, fun D hD => ?_⟩
    refine lc_it (walk_tup (xs := xs)) (fun i H4 => (∀ c o, c ≠ D → H c = some o → H4 c = some o) ∧ H4 D = some (.lst (((ps.take i).map fun q => q.2 * G q.1).map V.int)))
      ⟨fun c o hc e => by rw [upd_ne hc]; exact e, upd_same⟩ (fun i H4 _ ⟨kp, _⟩ => SqT.of (kp _ _ (ne_of_none hb hD) hb)) ?_ ?_
    · rintro i x H4 H4' hi ⟨kp, hD4⟩ ⟨rfl, hx⟩
      obtain ⟨u, m, c, e, hum, rfl, hc, he⟩ := part_get hxs hx
      have hi2 : i < ps.length := (List.getElem?_eq_some_iff.mp hum).1
      have hc4 := kp _ _ (ne_of_none hc hD) hc
      have he4 := kp _ _ (ne_of_none he hD) he
      obtain ⟨hv, sj, sm⟩ := pl _ (List.mem_of_getElem? hum)
      have hv : valV ks u = some (.int (G u)) := hv
      refine ⟨c, _, rfl, SqT.of hc4, rfl, _, _, rfl, _, _, rfl, rfl, rfl, yes_go (iteT ⟨_, rfl, _, rfl, _, rfl, d, .int (G u), rfl, ?_, m, G u, rfl, rfl, ⟨sm, sj⟩, _, hD4, ?_, fun c' o hc' e' => ?_, ?_⟩)⟩
      · exact hv ▸ DGet.t (kp _ _ (ne_of_none hd hD) hd) he4
      · refine small1000 ?_
        rw [List.length_map, List.length_map, List.length_take]
        have := Nat.min_le_right i ps.length
        omega
      · rw [upd_ne hc']
        exact kp c' o hc' e'
      · rw [upd_same, List.take_add_one, hum]
        simp
    · rintro H4 ⟨kp, hD4⟩
      rw [lx, List.take_length] at hD4
      refine ⟨D, _, rfl, SqL.of hD4, _, _, rfl, rfl, ?_⟩
      rw [lin_sum]
      exact q H4 fun c o e => kp c o (ne_of_none e hD) e
theorem ok_apart {f : Addr} {fd : FuncData} (F : Fun K "_law_apart" "_law_apart" sApart f fd) (T : Bi mg) (G1 : Has P w K mg base CX0 2 "_law_one" ["pool", "things"] (spOne K)) (G2 : Has P w K mg base CX0 2 "_law_mixed" ["pool", "things"] (spMixed K)) : FnOk P w K mg base CX0 3 f fd ["pool", "pieces"] spApart := by
  refine F.ok scApart (fun vs H Q E h => ?_) (fun cdv A outer s H vs Q E hr h => ?_)
  · obtain ⟨p, L, c, xs, pcs, rfl, _⟩ := h
    rfl
  · obtain ⟨p, L, c, xs, pcs, rfl, hP, hc, hL, hxs, ok, q⟩ := h
    have hu := hu_of hr
    have few := ok.few
    refine ⟨_, (pss_cons (ps_par (by rfl) scApart.nd (i := 2) (j := 3) rfl rfl (by decide) rfl rfl (pa_cons (pe_callH G1 hr (by rfl) pass0 (pa_cons (pv 0) (pa_cons (pe_lst (pa_cons pe_int (pa_cons pe_int (pa_cons (pe_un un_neg pe_int) (pa_cons pe_int pa_nil))))) pa_nil))) (pa_cons (pe_dnewK) pa_nil)) (by rfl))
      (pss_cons (ps_for PassesOwn.never rfl (pi_list (pe_callH G2 hr (by rfl) pass0 (pa_cons (pv 0) (pa_cons (pv 1) pa_nil)))) (pg_tup rfl (pgs_cons (pg_name (i := 4) scApart.nd rfl (.inl rfl)) (pgs_cons (pg_name (i := 5) scApart.nd rfl (.inl rfl)) (pgs_cons (pg_name (i := 6) scApart.nd rfl (.inl rfl)) pgs_nil)))) (pss_cons (ps_dput hu (pv 3) (pv 4) (pv 2) rfl)
      (pss_one (ps_set (i := 2) scApart.nd rfl (.inl rfl) (pe_op op_add (pe_op op_add (pv 2) (pe_callB call_len_seq (by rfl) T.len (by decide +kernel) (pa_cons (pv 6) pa_nil))) (pe_callH G1 hr (by rfl) pass0 (pa_cons (pv 0) (pa_cons (pe_lst (pa_cons pe_int (pa_cons pe_int (pa_cons pe_int (pa_cons pe_int pa_nil))))) pa_nil))))))))
      (pss_one (ps_ret (pv 3))))), ?_⟩
    have lx : xs.length = pcs.length := hxs.length
    refine ⟨_, rfl, _, rfl, (by show 4 ≤ sizeLine; decide), fun a ha => ?_⟩
    refine ⟨p, a, c, _, rfl, pool_new hP ha, by omega, .inl (SqL.of upd_same), pool_ne hP ha, (by show 0 < 4; decide), (by show 4 < 1000000; decide), fun v o hm hP1 => ?_⟩
    obtain ⟨n0, rfl, hn0⟩ : ∃ n : Int, v = .int n ∧ n.natAbs ≤ 1000 := by
      rcases List.mem_cons.mp hm with rfl | hm
      · exact ⟨_, rfl, by decide⟩
      rcases List.mem_cons.mp hm with rfl | hm
      · exact ⟨_, rfl, by decide⟩
      rcases List.mem_cons.mp hm with rfl | hm
      · exact ⟨_, rfl, by decide⟩
      rcases List.mem_cons.mp hm with rfl | hm
      · exact ⟨_, rfl, by decide⟩
      · cases hm
    have d1 : Dr p H (upd (upd H a (.lst [V.int 0, V.int 7, V.int (-50), V.int 1000])) p o) := fun b x hb e => by
      rw [upd_ne hb]
      exact (same_new ha) _ _ e
    have hap : a ≠ p := pool_ne hP ha
    generalize upd (upd H a (.lst [V.int 0, V.int 7, V.int (-50), V.int 1000])) p o = H1 at d1 hP1 ⊢
    refine fun D hD => ?_
    have Dp : D ≠ p := pool_ne hP1 hD
    have hDH : H D = none := by
      cases e : H D with
      | none => rfl
      | some x => rw [d1 _ _ Dp e] at hD; cases hD
    have sD := same_new (o := .dK []) hD
    have hP2 := pool_new (o := .dK []) hP1 hD
    have hD2 : upd H1 D (.dK []) D = some (.dK []) := upd_same
    have d2 : Dr p H (upd H1 D (.dK [])) := fun b x hb e => sD _ _ (d1 b x hb e)
    generalize upd H1 D (.dK []) = H2 at sD hP2 hD2 d2 ⊢
    have Lp : L ≠ p := fun z => by
      obtain ⟨_, _, _, e, _⟩ := hP.ex
      rw [z, e] at hL
      cases hL
      cases hxs with
      | cons h t =>
        obtain ⟨_, _, _, z, _⟩ := h
        cases z
    have tk : ∀ {H' : Hp}, Dr p H H' → TupS H H' := fun d c xs e => d _ _ (fun z => by
      obtain ⟨_, _, _, e2, _⟩ := hP.ex
      rw [z, e2] at e
      cases e) e
    refine ⟨_, _, rfl, ?_⟩
    refine ⟨_, rfl, _, rfl, p, L, c + 1, xs, rfl, hP2, by omega, .inl (SqL.of (d2 _ _ Lp hL)), by omega, fun M ys H3 pm d3 hP3 hM0 hM => ?_⟩
    obtain ⟨qs, hqs, pq⟩ := each_perm pm (eachs_imp (fun _ _ => pieceT_s (tk d2)) hxs)
    have tk2 : TupS H2 H3 := fun c xs e => d3 _ _ (fun z => by
      obtain ⟨_, _, _, e2, _⟩ := hP2.ex
      rw [z, e2] at e
      cases e) e
    have hqs3 := eachs_imp (fun _ _ => pieceT_s tk2) hqs
    have lq : ys.length = qs.length := hqs.length
    have lqp : qs.length = pcs.length := pq.length_eq
    have hD3 := d3 _ _ Dp hD2
    have d03 : Dr p H H3 := fun b x hb e => d3 b x hb (d2 b x hb e)
    have MD : M ≠ D := ne_of hM hD3 (by intro z; cases z)
    have Mp : M ≠ p := pool_ne hP2 hM0
    have qnod : (qs.map (·.1)).Nodup := (pq.map (·.1)).nodup_iff.mpr ok.nod
    refine ⟨M, rfl, ⟨_, SqL.of hM⟩, ?_⟩
    refine for_it (walk_list (xs := ys)) (fun i σ H' => ∃ (n : Int) (w4 w5 w6 : Option V) (l : Pl), σ = [some (.ref p), some (.ref L), some (.int n), some (.ref D), w4, w5, w6] ∧ (∀ b x, b ≠ p → b ≠ D → H3 b = some x → H' b = some x) ∧ Pool H' p (c + 1 + xs.length + i) ∧ H' D = some (.dK (plD l)) ∧ l.map (·.1) = (qs.take i).map (·.1) ∧ n.natAbs ≤ 1000 + 40 * i ∧ Near l (1000 + 40 * i))
      ⟨n0, none, none, none, [], rfl, fun _ _ _ _ e => e, hP3, hD3, rfl, by omega, fun _ h => by cases h⟩ (fun i σ H' _ ⟨_, _, _, _, _, _, kp, _⟩ => SqL.of (kp _ _ Mp MD hM)) ?_ ?_
    · rintro i y σ H' H'' hi ⟨n, w4, w5, w6, l, rfl, kp, hP', hD', hl, hn, near⟩ ⟨rfl, hy⟩
      obtain ⟨pc, hpc, hp⟩ := eachs_get hqs3 hy
      have i2 : i < qs.length := (List.getElem?_eq_some_iff.mp hpc).1
      have hmem : pc ∈ pcs := pq.mem_iff.mp (List.mem_of_getElem? hpc)
      have pfew := (ok.each pc hmem).few
      have tk3 : TupS H3 H'' := fun c xs e => kp _ _ (fun z => by
        obtain ⟨_, _, _, e2, _⟩ := hP3.ex
        rw [z, e2] at e
        cases e) (ne_of e hD3 (by intro z; cases z)) e
      obtain ⟨t, b, ws, rfl, ht, hb, hws⟩ := pieceT_s tk3 hp
      have lw : ws.length = pc.2.length := hws.length
      have nin : pc.1 ∉ l.map (·.1) := by
        rw [hl, List.map_take]
        exact take_not qnod (by rw [List.getElem?_map, hpc]; rfl)
      have ll : l.length ≤ 10 := by
        have e := congrArg List.length hl
        rw [List.length_map, List.length_map, List.length_take] at e
        omega
      refine ⟨t, _, rfl, SqT.of ht, rfl, _, _, rfl, _, _, rfl, _, _, rfl, rfl, ?_⟩
      refine ⟨_, rfl, _, rfl, _, rfl, D, _, rfl, DPut.k (k := .inr pc.1) hD' (small1000 (by unfold plD; rw [List.length_map]; omega)), ?_⟩
      have epu := plD_put l (.i n) nin
      have epu : putK (plD l) (.inr pc.1) (.int n) = plD (l ++ [(pc.1, .i n)]) := epu
      rw [epu]
      have kp4 : ∀ b x, b ≠ D → H'' b = some x → upd H'' D (.dK (plD (l ++ [(pc.1, .i n)]))) b = some x := fun b x hb e => by rw [upd_ne hb]; exact e
      have hP4 := pool_put (o := .dK (plD (l ++ [(pc.1, .i n)]))) hP' Dp.symm
      have hD4 : upd H'' D (.dK (plD (l ++ [(pc.1, .i n)]))) D = some (.dK (plD (l ++ [(pc.1, .i n)]))) := upd_same
      generalize upd H'' D (.dK (plD (l ++ [(pc.1, .i n)]))) = H4 at kp4 hP4 hD4 ⊢
      have hb4 := kp4 _ _ (ne_of hb hD' (by intro z; cases z)) hb
      refine ⟨_, rfl, _, rfl, b, ws, rfl, .inr (SqT.of hb4), _, _, rfl, rfl, _, rfl, (by show 4 ≤ sizeLine; decide), fun a5 ha5 => ?_⟩
      have a5p : a5 ≠ p := pool_ne hP4 ha5
      have s5 := same_new (o := .lst [V.int 0, V.int 0, V.int 1, V.int 30]) ha5
      refine ⟨p, a5, _, _, rfl, pool_new hP4 ha5, by omega, .inl (SqL.of upd_same), a5p, (by show 0 < 4; decide), (by show 4 < 1000000; decide), fun v o hm hP5 => ?_⟩
      obtain ⟨n5, rfl, h50, h51⟩ : ∃ n : Int, v = .int n ∧ 0 ≤ n ∧ n ≤ 30 := by
        rcases List.mem_cons.mp hm with rfl | hm
        · exact ⟨_, rfl, by decide, by decide⟩
        rcases List.mem_cons.mp hm with rfl | hm
        · exact ⟨_, rfl, by decide, by decide⟩
        rcases List.mem_cons.mp hm with rfl | hm
        · exact ⟨_, rfl, by decide, by decide⟩
        rcases List.mem_cons.mp hm with rfl | hm
        · exact ⟨_, rfl, by decide, by decide⟩
        · cases hm
      refine ⟨_, _, rfl, rfl, _, _, _, _, l ++ [(pc.1, .i n)], rfl, fun b x h1 h2 e => ?_, hP5, ?_, ?_, ?_, ?_⟩
      · rw [upd_ne h1]
        exact s5 _ _ (kp4 _ _ h2 (kp _ _ h1 h2 e))
      · rw [upd_ne Dp]
        exact s5 _ _ hD4
      · rw [List.map_append, hl, List.take_add_one, hpc, List.map_append]
        rfl
      · rw [lw]
        omega
      · intro q hq
        rcases List.mem_append.mp hq with hq | hq
        · obtain ⟨m, e1, e2⟩ := near q hq
          exact ⟨m, e1, by omega⟩
        · rw [List.mem_singleton.mp hq]
          exact ⟨n, rfl, by omega⟩
    · rintro σ H' ⟨n, w4, w5, w6, l, rfl, kp, hP', hD', hl, hn, near⟩
      rw [lq, List.take_length] at hl
      refine ⟨_, rfl, q D l H' _ (fun b x hb e => kp _ _ hb (ne_of_none e hDH) (d03 _ _ hb e)) hP' (by omega) hDH hD' (by rw [hl]; exact pq.map _) fun x hx => ?_⟩
      obtain ⟨m, e1, e2⟩ := near x hx
      exact ⟨m, e1, by omega⟩
end
end DR

namespace DR
open PySem PySem.Spec PyProof.Rows L2
/-! ### _law_pieces -/
theorem abs_isU (v u : List Key) (m : Int) : (m * isU v u).natAbs ≤ m.natAbs := by
  unfold isU
  split
  · simp
  · simp
theorem lin_abs (v : List Key) (b : Nat) : ∀ l : Mul, (∀ q ∈ l, q.2.natAbs ≤ b) → (lin (isU v) l).natAbs ≤ l.length * b
  | [], _ => by simp [lin]
  | q :: l, h => by
    have ih := lin_abs v b l fun q' hq => h q' (List.mem_cons_of_mem _ hq)
    have h1 : q.2.natAbs ≤ b := h q (List.mem_cons_self ..)
    have h2 := abs_isU v q.1 q.2
    have h3 := Int.natAbs_add_le (q.2 * isU v q.1) (lin (isU v) l)
    have e : (q :: l).length * b = l.length * b + b := by
      rw [List.length_cons, Nat.add_mul, Nat.one_mul]
    rw [e]
    show (q.2 * isU v q.1 + lin (isU v) l).natAbs ≤ _
    omega
theorem wd_of {n : Int} {l : Mul} (uk : ∀ u ∈ l.map (·.1), UkP u) (few : l.length ≤ 5) (mu : ∀ q ∈ l, q.2.natAbs ≤ 2048) (nz : Sz n) : WdOk n (form (accAll l)) := by
  have nm : ∀ u ∈ l.map (·.1), NmU u := fun u hu => (uk u hu).nmu
  refine ⟨form_nod (acc_nod l), form_keys (plusA_keys l [] uk (fun u hu => by simp at hu)), form_form (acc_nod l) (accA_nm nm), ?_, fun q hq => ?_, nz⟩
  · have h1 := form_len (accAll l)
    have h2 := accA_len l
    omega
  · unfold form at hq
    obtain ⟨u, _, rfl⟩ := List.mem_map.mp hq
    show Sz (getI (accAll l) u)
    rw [getI_acc]
    have h3 := lin_abs u 2048 l mu
    refine Nat.lt_of_le_of_lt h3 (Nat.lt_of_le_of_lt (Nat.mul_le_mul_right _ few) (by decide))
theorem form_nil : form [] = [] := by
  unfold form keysN
  simp
theorem each_strs : ∀ {ys : List V} {zs : List Str}, PySem.W.EachIs (fun v z => v = V.str z) ys zs → ys = zs.map V.str
  | _, _, .nil => rfl
  | _, _, .cons h t => by rw [h, each_strs t]; rfl
/-- words with unknowns of these pieces alone -/
def OwnW (zs : List Str) (w : Int × Mul) : Prop := WdOk w.1 w.2 ∧ ∀ u ∈ w.2.map (·.1), ∃ z ∈ zs, u = [.inr sPiece, .inr z]
def OwnP (zs : List Str) (q : Pc) : Prop := q.1 ∈ zs ∧ q.2.length ≤ 3 ∧ ∀ w ∈ q.2, OwnW zs w
def sStart : Str := "start"
def q0 : Pc := (sStart, [(0, [])])
def nms : List Str := ["b", "a", "main", "tab"]
theorem nms_ok : ∀ z ∈ nms, NmOk z ∧ z ≠ sStart := by
  intro z hz
  have go : nms.all (fun z => isNmS z && decide (z.length ≤ 1000) && !decide (z = sStart)) = true := by decide +kernel
  have := List.all_eq_true.mp go z hz
  simp only [Bool.and_eq_true, decide_eq_true_eq, Bool.not_eq_true', decide_eq_false_iff_not] at this
  exact ⟨⟨this.1.1, this.1.2⟩, this.2⟩
theorem pcs_ok {zs : List Str} {pcs : List Pc} (hz : ∀ z ∈ zs, NmOk z ∧ z ≠ sStart) (nod : zs.Nodup) (hn : pcs.map (·.1) = zs) (l4 : zs.length ≤ 4) (own : ∀ q ∈ pcs, OwnP zs q) : PcsOk (q0 :: pcs) := by
  have e : (q0 :: pcs).map (·.1) = sStart :: zs := by rw [List.map_cons, hn]; rfl
  have lp : pcs.length = zs.length := by rw [← hn, List.length_map]
  refine ⟨fun q hq => ?_, ?_, ?_, fun q hq w hw u hu => ?_⟩
  · rcases List.mem_cons.mp hq with rfl | hq
    · refine ⟨⟨by decide +kernel, by decide +kernel⟩, by decide, fun w hw => ?_⟩
      rw [List.mem_singleton.mp hw]
      exact ⟨List.nodup_nil, fun u hu => by simp at hu, form_nil, Nat.zero_le _, fun q hq => by simp at hq, by show (0 : Int).natAbs < 2 ^ 200; decide⟩
    · obtain ⟨a, b, c⟩ := own q hq
      exact ⟨(hz _ a).1, by omega, fun w hw => (c w hw).1⟩
  · rw [e, List.nodup_cons]
    exact ⟨fun z => (hz _ z).2 rfl, nod⟩
  · rw [List.length_cons]
    omega
  · rcases List.mem_cons.mp hq with rfl | hq
    · rw [List.mem_singleton.mp hw] at hu
      simp at hu
    · obtain ⟨z, h1, h2⟩ := ((own q hq).2.2 w hw).2 u hu
      exact ⟨z, by rw [e]; exact List.mem_cons_of_mem _ h1, h2⟩
def spLPieces (K : PySem.W.Frag) : Sp := fun vs H Q _ => ∃ (p : Addr) (c : Nat), vs = [.ref p] ∧ Pool H p c ∧ c < 1000 ∧
  ∀ M xs pcs H' c', Dr p H H' → Pool H' p c' → c' < c + 200 → H M = none → H' M = some (.lst xs) → PySem.W.EachIs (PieceT H') xs (q0 :: pcs) → PcsOk (q0 :: pcs) → pcs.length ≤ 4 → (∀ q ∈ pcs, q.1 ∈ nms) → Q (.ref M) H'
abbrev sLPieces : Stmt := topS 44
theorem scLPieces : FnScope ["pool", "names", "found", "p", "words", "k", "pairs", "j"] ["pool"] (defScope sLPieces) := ⟨rfl, rfl, rfl, by decide +kernel, rfl, by decide +kernel, by decide +kernel⟩
abbrev tPart (K : PySem.W.Frag) : TE := tTup (tCons (tTup (tCons (tC (.str "piece")) (tCons (tCall (spOne K) [] E0 (tCons (tVar 0) (tCons (tVar 1) tNil))) tNil))) (tCons (tCall (spOne K) [] E0 (tCons (tVar 0) (tCons (tLst (tCons (tC (.int 1)) (tCons (tC (.int 2)) (tCons (tUn (rU fun i => .int (-i)) (tC (.int 1))) (tCons (tC (.int 2048)) tNil))))) tNil))) tNil))
section
variable {P : Program} {w : World} {K : PySem.W.Frag} {mg : Str → Option Value} {base : Heap}
theorem ok_lpieces {f : Addr} {fd : FuncData} (F : Fun K "_law_pieces" "_law_pieces" sLPieces f fd) (T : Bi mg) (GT : Has P w K mg base CX0 3 "_law_take" ["pool", "many"] spTake) (G1 : Has P w K mg base CX0 3 "_law_one" ["pool", "things"] (spOne K)) (G2 : Has P w K mg base CX0 3 "_law_mixed" ["pool", "things"] (spMixed K))
    (G3 : Has P w K mg base CX0 3 "_law_total" ["number", "pairs"] (spTotal K)) : FnOk P w K mg base CX0 4 f fd ["pool"] (spLPieces K) := by
  refine F.ok scLPieces (fun vs H Q E h => ?_) (fun cdv A outer s H vs Q E hr h => ?_)
  · obtain ⟨p, c, rfl, _⟩ := h
    rfl
  · obtain ⟨p, c, rfl, hP, hc, q⟩ := h
    have hu := hu_of hr
    refine ⟨_, (pss_cons (ps_set (i := 1) scLPieces.nd rfl (.inr rfl) (pe_slice sl_list (pe_callH G2 hr (by rfl) pass0 (pa_cons (pv 0) (pa_cons (pe_lst (pa_cons pe_str (pa_cons pe_str (pa_cons pe_str (pa_cons pe_str pa_nil))))) pa_nil))) po_none (po_some (pe_op op_add pe_int (pe_callH GT hr (by rfl) pass0 (pa_cons (pv 0) (pa_cons pe_int pa_nil)))))))
      (pss_cons (ps_set (i := 2) scLPieces.nd rfl (.inl rfl) (pe_lst pa_nil))
      (pss_cons (ps_for PassesOwn.never rfl (pi_list (pv 1)) (pg_name (i := 3) scLPieces.nd rfl (.inl rfl)) (pss_cons (ps_set (i := 4) scLPieces.nd rfl (.inl rfl) (pe_lst pa_nil))
      (pss_cons (ps_for PassesOwn.never rfl (pi_range1 (by rfl) T.range (pa_cons (pe_callH GT hr (by rfl) pass0 (pa_cons (pv 0) (pa_cons pe_int pa_nil))) pa_nil)) (pg_name (i := 5) scLPieces.nd rfl (.inl rfl)) (pss_cons (ps_setLc (i := 6) (own := [("j", 7)]) (g := gName 7) (tt := tYes) (te := tPart K) rfl scLPieces.nd rfl rfl (sw_true rfl rfl rfl (by decide +kernel)) (pi_range1 (by rfl) T.range (pa_cons (pe_callH GT hr (by rfl) pass0 (pa_cons (pv 0) (pa_cons pe_int pa_nil))) pa_nil)) (blkOk_by (N := ["pool", "names", "found", "p", "words", "k", "pairs", "j"]) (sc := defScope sLPieces) (by decide +kernel)) (fun _ _ _ _ _ => pg_name (i := 7) scLPieces.nd rfl (.inl rfl)) (fun _ _ _ _ _ => pts_nil) (fun _ _ _ _ _ => (pe_tup (pa_cons (pe_tup (pa_cons pe_str (pa_cons (pe_callH G1 hr (by rfl) pass0 (pa_cons (pv 0) (pa_cons (pv 1) pa_nil))) pa_nil))) (pa_cons (pe_callH G1 hr (by rfl) pass0 (pa_cons (pv 0) (pa_cons (pe_lst (pa_cons pe_int (pa_cons pe_int (pa_cons (pe_un un_neg pe_int) (pa_cons pe_int pa_nil))))) pa_nil))) pa_nil)))))
      (pss_one (ps_expr (pe_bm PySem.F.plainAttrs_list PySem.F.slot_list_append PySem.F.type_list_append mt_append (pv 4) (pa_cons (pe_callH G3 hr (by rfl) pass0 (pa_cons (pe_op op_sub (pe_callH GT hr (by rfl) pass0 (pa_cons (pv 0) (pa_cons pe_int pa_nil))) pe_int) (pa_cons (pv 6) pa_nil))) pa_nil))))))
      (pss_one (ps_expr (pe_bm PySem.F.plainAttrs_list PySem.F.slot_list_append PySem.F.type_list_append mt_append (pv 2) (pa_cons (pe_tup (pa_cons (pv 3) (pa_cons pe_str (pa_cons (pe_callTy call_tuple_of (by rfl) T.tuple (by decide +kernel) (pa_cons (pv 4) pa_nil)) pa_nil)))) pa_nil)))))))
      (pss_one (ps_ret (pe_op op_cat (pe_lst (pa_cons (pe_tup (pa_cons pe_str (pa_cons pe_str (pa_cons (pe_tup (pa_cons (pe_tup (pa_cons pe_int (pa_cons (pe_tup pa_nil) pa_nil))) pa_nil)) pa_nil)))) pa_nil)) (pv 2))))))), ?_⟩
    refine ⟨_, rfl, (by show 4 ≤ sizeLine; decide), fun a ha => ?_⟩
    have hP0 := pool_new (o := .lst [V.str "b", V.str "a", V.str "main", V.str "tab"]) hP ha
    have d0 : Dr p H (upd H a (.lst [V.str "b", V.str "a", V.str "main", V.str "tab"])) := fun b x _ e => (same_new ha) _ _ e
    have ha0 : upd H a (.lst [V.str "b", V.str "a", V.str "main", V.str "tab"]) a = some (.lst [V.str "b", V.str "a", V.str "main", V.str "tab"]) := upd_same
    generalize upd H a (.lst [V.str "b", V.str "a", V.str "main", V.str "tab"]) = H0 at hP0 d0 ha0 ⊢
    refine ⟨p, a, c, _, rfl, hP0, by show c + 4 < 100000; omega, .inl (SqL.of ha0), (by show 4 ≤ 1000; decide), fun M ys H1 pm d1 hP1 hM0 hM => ?_⟩
    have Mp : M ≠ p := pool_ne hP0 hM0
    have ly : ys.length = 4 := pm.length_eq
    refine ⟨_, rfl, p, _, 4, rfl, hP1, (by show c + 4 < 100000; omega), by decide, by decide, fun r o h0 h1 hP2 => ?_⟩
    obtain ⟨r, rfl⟩ := Int.eq_ofNat_of_zero_le h0
    have hr4 : r < 4 := by omega
    have hM2 : upd H1 p o M = some (.lst ys) := by rw [upd_ne Mp]; exact hM
    have d2 : Dr p H (upd H1 p o) := fun b x hb e => by
      rw [upd_ne hb]
      exact d1 b x hb (d0 b x hb e)
    generalize upd H1 p o = H2 at hP2 hM2 d2 ⊢
    refine ⟨_, _, rfl, rfl, _, rfl, M, ys, rfl, SqL.of hM2, fun NL hNL => ?_⟩
    have er : (1 : Int) + (r : Int) = ((r + 1 : Nat) : Int) := by omega
    rw [er, cut_to (by omega)] at *
    obtain ⟨zs0, ez, pz⟩ : ∃ zs0 : List Str, ys = zs0.map V.str ∧ zs0.Perm nms := by
      obtain ⟨zs, h1, h2⟩ := each_perm (R := fun v z => v = V.str z) pm (bs := nms) (.cons rfl (.cons rfl (.cons rfl (.cons rfl .nil))))
      exact ⟨zs, each_strs h1, h2⟩
    have l0 : zs0.length = 4 := pz.length_eq
    have nod0 : zs0.Nodup := pz.nodup_iff.mpr (by decide +kernel)
    have ok0 : ∀ z ∈ zs0, NmOk z ∧ z ≠ sStart := fun z hz => nms_ok z (pz.mem_iff.mp hz)
    rw [ez, ← List.map_take]
    have lzs : (zs0.take (r + 1)).length = r + 1 := by rw [List.length_take]; omega
    have nod : (zs0.take (r + 1)).Nodup := nod0.sublist (List.take_sublist _ _)
    have okz : ∀ z ∈ zs0.take (r + 1), NmOk z ∧ z ≠ sStart := fun z hz => ok0 z (List.mem_of_mem_take hz)
    have zn : ∀ z ∈ zs0.take (r + 1), z ∈ nms := fun z hz => pz.mem_iff.mp (List.mem_of_mem_take hz)
    generalize zs0.take (r + 1) = zs at lzs nod okz zn ⊢
    have NLp : NL ≠ p := pool_ne hP2 hNL
    have sN := same_new (o := .lst (zs.map V.str)) hNL
    have hP3 := pool_new (o := .lst (zs.map V.str)) hP2 hNL
    have hN3 : upd H2 NL (.lst (zs.map V.str)) NL = some (.lst (zs.map V.str)) := upd_same
    generalize upd H2 NL (.lst (zs.map V.str)) = H3 at sN hP3 hN3 ⊢
    refine ⟨(by show 0 ≤ sizeLine; decide), fun F0 hF0 => ?_⟩
    have Fp : F0 ≠ p := pool_ne hP3 hF0
    have sF := same_new (o := .lst []) hF0
    have hP4 := pool_new (o := .lst []) hP3 hF0
    have hF4 : upd H3 F0 (.lst []) F0 = some (.lst []) := upd_same
    have NF : NL ≠ F0 := ne_of_none hN3 hF0
    generalize upd H3 F0 (.lst []) = H4 at sF hP4 hF4 ⊢
    have hN4 := sF _ _ hN3
    have d4 : Dr p H H4 := fun b x hb e => sF _ _ (sN _ _ (d2 b x hb e))
    have FH : H F0 = none := by
      cases e : H F0 with
      | none => rfl
      | some x =>
        rw [sN _ _ (d2 _ _ Fp e)] at hF0
        cases hF0
    refine ⟨_, rfl, NL, rfl, ⟨_, SqL.of hN4⟩, ?_⟩
    refine for_it (walk_list (xs := zs.map V.str)) (fun i σ H' => ∃ (w3 w4 w5 w6 w7 : Option V) (vs : List V) (pcs : List Pc) (c' : Nat), σ = [some (.ref p), some (.ref NL), some (.ref F0), w3, w4, w5, w6, w7] ∧ (∀ b x, b ≠ p → b ≠ F0 → H4 b = some x → H' b = some x) ∧ Pool H' p c' ∧ c' ≤ c + 4 + 1 + 20 * i ∧ H' F0 = some (.lst vs) ∧ vs.length = i ∧ PySem.W.EachIs (PieceT H') vs pcs ∧ pcs.map (·.1) = zs.take i ∧ ∀ q ∈ pcs, OwnP zs q)
      ⟨none, none, none, none, none, [], [], _, rfl, fun _ _ _ _ e => e, hP4, Nat.le_refl _, hF4, rfl, .nil, rfl, fun _ h => by cases h⟩ (fun i σ H' _ ⟨_, _, _, _, _, _, _, _, _, kp, _⟩ => SqL.of (kp _ _ NLp NF hN4)) ?_ ?_
    · rintro i y σ H' H5 hi ⟨w3, w4, w5, w6, w7, vs, pcs, c', rfl, kp, hP', hc', hF', hlv, hvs, hmap, hown⟩ ⟨rfl, hy⟩
      rw [List.length_map] at hi
      obtain ⟨z, hz, rfl⟩ : ∃ z, zs[i]? = some z ∧ y = V.str z := by
        rw [List.getElem?_map] at hy
        cases e : zs[i]? with
        | none => rw [e] at hy; cases hy
        | some z => rw [e] at hy; exact ⟨z, rfl, (Option.some.inj hy).symm⟩
      have hN5 := kp _ _ NLp NF hN4
      refine ⟨(by show 0 ≤ sizeLine; decide), fun W hW => ?_⟩
      have Wp : W ≠ p := pool_ne hP' hW
      have WF : W ≠ F0 := (ne_of_none hF' hW).symm
      have NW : NL ≠ W := ne_of_none hN5 hW
      have sW := same_new (o := .lst []) hW
      have hP6 := pool_new (o := .lst []) hP' hW
      have hW6 : upd H5 W (.lst []) W = some (.lst []) := upd_same
      generalize upd H5 W (.lst []) = H6 at sW hP6 hW6 ⊢
      refine ⟨_, rfl, p, c', 4, rfl, hP6, by omega, by decide, by decide, fun r4 o4 h40 h41 hP7 => ?_⟩
      have k67 : ∀ b x, b ≠ p → H6 b = some x → upd H6 p o4 b = some x := fun b x hb e => by rw [upd_ne hb]; exact e
      generalize upd H6 p o4 = H7 at k67 hP7 ⊢
      refine ⟨_, rfl, by omega, by omega, ?_⟩
      refine for_range (lo := 0) (n := r4.toNat) (fun k σ Hk => ∃ (w5 w6 w7 : Option V) (us : List V) (ws : List (Int × Mul)) (ck : Nat), σ = [some (.ref p), some (.ref NL), some (.ref F0), some (.str z), some (.ref W), w5, w6, w7] ∧ (∀ b x, b ≠ p → b ≠ W → H7 b = some x → Hk b = some x) ∧ Pool Hk p ck ∧ ck ≤ c' + 1 + 6 * k ∧ Hk W = some (.lst us) ∧ us.length = k ∧ PySem.W.EachIs (SumP Hk) us ws ∧ ∀ w ∈ ws, OwnW zs w)
        ⟨_, _, _, [], [], _, rfl, fun _ _ _ _ e => e, hP7, Nat.le_refl _, k67 _ _ Wp hW6, rfl, .nil, fun _ h => by cases h⟩ ?_ ?_
      · rintro k σ H8 hk ⟨w5, w6, w7, us, ws, ck, rfl, kp8, hP8, hck, hW8, hlu, hus, hws⟩
        have hN8 := kp8 _ _ NLp NW (k67 _ _ NLp (sW _ _ hN5))
        refine ⟨_, rfl, p, ck, 3, rfl, hP8, by omega, by decide, by decide, fun r3 o3 h30 h31 hP9 => ?_⟩
        have k89 : ∀ b x, b ≠ p → H8 b = some x → upd H8 p o3 b = some x := fun b x hb e => by rw [upd_ne hb]; exact e
        generalize upd H8 p o3 = H9 at k89 hP9 ⊢
        refine ⟨_, rfl, by omega, by omega, fun Dp hDp => ?_⟩
        have Dpp : Dp ≠ p := pool_ne hP9 hDp
        have hN9 := k89 _ _ NLp hN8
        have ND : NL ≠ Dp := ne_of_none hN9 hDp
        refine lc_range (lo := 0) (n := r3.toNat) (fun j Hj => (∀ b x, b ≠ p → b ≠ Dp → H9 b = some x → Hj b = some x) ∧ ∃ (ts : List V) (ps : Mul) (cj : Nat), Pool Hj p cj ∧ cj ≤ ck + 1 + 2 * j ∧ Hj Dp = some (.lst ts) ∧ ts.length = j ∧ PySem.W.EachIs (PartT Hj) ts ps ∧ ∀ q ∈ ps, (∃ z ∈ zs, q.1 = [.inr sPiece, .inr z]) ∧ q.2.natAbs ≤ 2048)
          ⟨fun b x _ hb e => by rw [upd_ne hb]; exact e, [], [], _, pool_new hP9 hDp, Nat.le_refl _, upd_same, rfl, .nil, fun _ h => by cases h⟩ ?_ ?_
        · rintro j Hj hj ⟨kpj, ts, ps, cj, hPj, hcj, hDj, hlt, hts, hps⟩
          have hNj := kpj _ _ NLp ND hN9
          refine ⟨rfl, yes_go (iteT ?_)⟩
          refine ⟨_, rfl, _, rfl, p, NL, cj, _, rfl, hPj, by omega, .inl (SqL.of hNj), NLp, (by rw [List.length_map]; omega), (by rw [List.length_map]; omega), fun v o hv hPa => ?_⟩
          obtain ⟨z2, hz2, rfl⟩ := List.mem_map.mp hv
          have ka : ∀ b x, b ≠ p → Hj b = some x → upd Hj p o b = some x := fun b x hb e => by rw [upd_ne hb]; exact e
          generalize upd Hj p o = Ha at ka hPa ⊢
          refine ⟨(by show 2 ≤ sizeLine; decide), fun e2 he2 => ?_⟩
          have e2p : e2 ≠ p := pool_ne hPa he2
          have sb := same_new (o := .tup [V.str "piece", V.str z2]) he2
          have hPb := pool_new (o := .tup [V.str "piece", V.str z2]) hPa he2
          have heb : upd Ha e2 (.tup [V.str "piece", V.str z2]) e2 = some (.tup [V.str "piece", V.str z2]) := upd_same
          generalize upd Ha e2 (.tup [V.str "piece", V.str z2]) = Hb at sb hPb heb ⊢
          refine ⟨_, rfl, _, rfl, (by show 4 ≤ sizeLine; decide), fun a5 ha5 => ?_⟩
          have a5p : a5 ≠ p := pool_ne hPb ha5
          have s5 := same_new (o := .lst [V.int 1, V.int 2, V.int (-1), V.int 2048]) ha5
          refine ⟨p, a5, _, _, rfl, pool_new hPb ha5, by omega, .inl (SqL.of upd_same), a5p, (by show 0 < 4; decide), (by show 4 < 1000000; decide), fun v o5 hm hP5 => ?_⟩
          obtain ⟨m, rfl, hm5⟩ : ∃ n : Int, v = .int n ∧ n.natAbs ≤ 2048 := by
            rcases List.mem_cons.mp hm with rfl | hm
            · exact ⟨_, rfl, by decide⟩
            rcases List.mem_cons.mp hm with rfl | hm
            · exact ⟨_, rfl, by decide⟩
            rcases List.mem_cons.mp hm with rfl | hm
            · exact ⟨_, rfl, by decide⟩
            rcases List.mem_cons.mp hm with rfl | hm
            · exact ⟨_, rfl, by decide⟩
            · cases hm
          have kc : ∀ b x, b ≠ p → Hb b = some x → upd (upd Hb a5 (.lst [V.int 1, V.int 2, V.int (-1), V.int 2048])) p o5 b = some x := fun b x hb e => by
            rw [upd_ne hb]
            exact s5 _ _ e
          generalize upd (upd Hb a5 (.lst [V.int 1, V.int 2, V.int (-1), V.int 2048])) p o5 = Hc at kc hP5 ⊢
          refine ⟨(by show 2 ≤ sizeLine; decide), fun c6 hc6 => ?_⟩
          have s6 := same_new (o := .tup [V.ref e2, V.int m]) hc6
          have hP6' := pool_new (o := .tup [V.ref e2, V.int m]) hP5 hc6
          have hcc : upd Hc c6 (.tup [V.ref e2, V.int m]) c6 = some (.tup [V.ref e2, V.int m]) := upd_same
          generalize upd Hc c6 (.tup [V.ref e2, V.int m]) = Hd at s6 hP6' hcc ⊢
          have kd : ∀ b x, b ≠ p → Hj b = some x → Hd b = some x := fun b x hb e => s6 _ _ (kc _ _ hb (sb _ _ (ka _ _ hb e)))
          have hDd := kd _ _ Dpp hDj
          have tsd : TupS Hj Hd := fun c xs e => kd _ _ (fun zz => by
            obtain ⟨_, _, _, e2, _⟩ := hPj.ex
            rw [zz, e2] at e
            cases e) e
          have tsf : TupS Hd (upd Hd Dp (.lst (ts ++ [.ref c6]))) := TupS.put hDd (by intro xs z; cases z)
          refine ⟨ts, hDd, small1000 (by omega), fun b x h1 h2 e => by rw [upd_ne h2]; exact kd _ _ h1 (kpj _ _ h1 h2 e), ts ++ [.ref c6], ps ++ [([.inr sPiece, .inr z2], m)], _, pool_put hP6' Dpp.symm, by omega, upd_same, by simp [hlt], ?_, ?_⟩
          · exact eachs_snoc (R := PartT _) (show PartT _ (.ref c6) (([.inr sPiece, .inr z2] : List Key), m) from ⟨c6, e2, rfl, tsf _ _ hcc, tsf _ _ (s6 _ _ (kc _ _ e2p heb))⟩) (eachs_imp (fun _ _ => partT_s (tsd.trans tsf)) hts)
          · intro q hq
            rcases List.mem_append.mp hq with hq | hq
            · exact hps q hq
            · rw [List.mem_singleton.mp hq]
              exact ⟨⟨z2, hz2, rfl⟩, hm5⟩
        · rintro Hj ⟨kpj, ts, ps, cj, hPj, hcj, hDj, hlt, hts, hps⟩
          have few2 : ps.length ≤ 2 := by
            have := hts.length
            omega
          have kj : ∀ b x, b ≠ p → H8 b = some x → Hj b = some x := fun b x hb e => kpj _ _ hb (ne_of_none (k89 _ _ hb e) hDp) (k89 _ _ hb e)
          have hWj := kj _ _ Wp hW8
          refine ⟨_, rfl, .inl ⟨rfl, _, SqL.of hWj⟩, _, rfl, p, cj, 100, rfl, hPj, by omega, by decide, by decide, fun r1 o1 h10 h11 hPk => ?_⟩
          have kk : ∀ b x, b ≠ p → Hj b = some x → upd Hj p o1 b = some x := fun b x hb e => by rw [upd_ne hb]; exact e
          have tsk : TupS Hj (upd Hj p o1) := fun c xs e => kk _ _ (fun zz => by
            obtain ⟨_, _, _, e2, _⟩ := hPj.ex
            rw [zz, e2] at e
            cases e) e
          have tj : TupS H8 Hj := fun c xs e => kj _ _ (fun zz => by
            obtain ⟨_, _, _, e2, _⟩ := hP8.ex
            rw [zz, e2] at e
            cases e) e
          generalize upd Hj p o1 = Hk at kk tsk hPk ⊢
          have uk : ∀ u ∈ ps.map (·.1), UkP u := fun u hu => by
            obtain ⟨q, hq, rfl⟩ := List.mem_map.mp hu
            obtain ⟨⟨z2, hz2, e⟩, _⟩ := hps q hq
            exact ⟨z2, e, (okz z2 hz2).1⟩
          refine ⟨_, _, rfl, rfl, _, rfl, _, Dp, ts, ps, rfl, .inl (SqL.of (kk _ _ Dpp hDj)), eachs_imp (fun _ _ => partT_s tsk) hts, fun u hu => (uk u hu).nmu, by omega, fun v' Hl sl hv' => ?_⟩
          have hWl := sl _ _ (kk _ _ Wp hWj)
          have tsm : TupS Hl (upd Hl W (.lst (us ++ [v']))) := TupS.put hWl (by intro xs z; cases z)
          have hPl : Pool Hl p (cj + 1) := by
            obtain ⟨a, b, z, e, r⟩ := hPk.ex
            exact ⟨a, b, z, sl _ _ e, r⟩
          refine ⟨W, us, v', rfl, rfl, hWl, small1000 (by omega), ?_⟩
          refine ⟨_, _, _, us ++ [v'], ws ++ [(r1 - 20, form (accAll ps))], _, rfl, fun b x h1 h2 e => by rw [upd_ne h2]; exact sl _ _ (kk _ _ h1 (kj _ _ h1 (kp8 _ _ h1 h2 e))), pool_put hPl Wp.symm, by omega, upd_same, by simp [hlu], ?_, ?_⟩
          · exact eachs_snoc (R := SumP _) (sumT_s tsm hv') (eachs_imp (fun _ _ => sumT_s (((tj.trans tsk).trans (TupS.of sl)).trans tsm)) hus)
          · intro w hw
            rcases List.mem_append.mp hw with hw | hw
            · exact hws w hw
            · rw [List.mem_singleton.mp hw]
              refine ⟨wd_of uk (by omega) (fun q hq => (hps q hq).2) ?_, form_keys (plusA_keys ps [] (fun u hu => ?_) (fun u hu => by simp at hu))⟩
              · show (r1 - 20).natAbs < 2 ^ 200
                have : (r1 - 20).natAbs < 200 := by omega
                exact Nat.lt_trans this (by decide)
              · obtain ⟨q, hq, rfl⟩ := List.mem_map.mp hu
                exact (hps q hq).1
      · rintro σ H8 ⟨w5, w6, w7, us, ws, ck, rfl, kp8, hP8, hck, hW8, hlu, hus, hws⟩
        have hF8 := kp8 _ _ Fp WF.symm (k67 _ _ Fp (sW _ _ hF'))
        refine ⟨_, rfl, .inl ⟨rfl, _, SqL.of hF8⟩, _, rfl, _, rfl, W, us, rfl, .inl ⟨SqL.of hW8, fun tp htp => ⟨(by show 3 ≤ sizeLine; decide), fun t7 ht7 => ?_⟩⟩⟩
        have sA := same_new (o := .tup us) htp
        have hPA := pool_new (o := .tup us) hP8 htp
        have htA : upd H8 tp (.tup us) tp = some (.tup us) := upd_same
        generalize upd H8 tp (.tup us) = HA at sA hPA htA ht7 ⊢
        have sB := same_new (o := .tup [V.str z, V.str "code", V.ref tp]) ht7
        have hPB := pool_new (o := .tup [V.str z, V.str "code", V.ref tp]) hPA ht7
        have htB : upd HA t7 (.tup [V.str z, V.str "code", V.ref tp]) t7 = some (.tup [V.str z, V.str "code", V.ref tp]) := upd_same
        generalize upd HA t7 (.tup [V.str z, V.str "code", V.ref tp]) = HB at sB hPB htB ⊢
        have s8B := sA.trans sB
        have hFB := s8B _ _ hF8
        have tsC : TupS HB (upd HB F0 (.lst (vs ++ [.ref t7]))) := TupS.put hFB (by intro xs z; cases z)
        have t5 : TupS H5 H8 := fun c xs e => by
          have h1 : c ≠ p := fun zz => by
            obtain ⟨_, _, _, e2, _⟩ := hP'.ex
            rw [zz, e2] at e
            cases e
          exact kp8 _ _ h1 (ne_of_none e hW) (k67 _ _ h1 (sW _ _ e))
        refine ⟨F0, vs, .ref t7, rfl, rfl, hFB, small1000 (by omega), ?_⟩
        refine ⟨_, _, _, _, _, vs ++ [.ref t7], pcs ++ [(z, ws)], _, rfl, fun b x h1 h2 e => ?_, pool_put hPB Fp.symm, by omega, upd_same, by simp [hlv], ?_, ?_, ?_⟩
        · rw [upd_ne h2]
          exact s8B _ _ (kp8 _ _ h1 (ne_of_none (kp _ _ h1 h2 e) hW) (k67 _ _ h1 (sW _ _ (kp _ _ h1 h2 e))))
        · exact eachs_snoc (R := PieceT _) ⟨t7, tp, us, rfl, tsC _ _ htB, tsC _ _ (sB _ _ htA), eachs_imp (fun _ _ => sumT_s ((TupS.of s8B).trans tsC)) hus⟩ (eachs_imp (fun _ _ => pieceT_s ((t5.trans (TupS.of s8B)).trans tsC)) hvs)
        · rw [List.map_append, hmap, List.take_add_one, hz]
          rfl
        · intro x hx
          rcases List.mem_append.mp hx with hx | hx
          · exact hown x hx
          · rw [List.mem_singleton.mp hx]
            have := hus.length
            exact ⟨List.mem_of_getElem? hz, by show ws.length ≤ 3; omega, hws⟩
    · rintro σ H' ⟨w3, w4, w5, w6, w7, vs, pcs, c', rfl, kp, hP', hc', hF', hlv, hvs, hmap, hown⟩
      rw [List.length_map] at hlv hc' hmap
      rw [List.take_length] at hmap
      have d' : Dr p H H' := fun b x hb e => kp _ _ hb (ne_of_none e FH) (d4 b x hb e)
      refine ⟨(by show 0 ≤ sizeLine; decide), fun b1 hb1 => ⟨(by show 2 ≤ sizeLine; decide), fun b2 hb2 => ⟨(by show 1 ≤ sizeLine; decide), fun b3 hb3 => ⟨(by show 3 ≤ sizeLine; decide), fun b4 hb4 => ⟨(by show 1 ≤ sizeLine; decide), fun b5 hb5 => ?_⟩⟩⟩⟩⟩
      have s1 := same_new (o := .tup ([] : List V)) hb1
      have g1 : upd H' b1 (.tup []) b1 = some (.tup []) := upd_same
      have P1 := pool_new (o := .tup ([] : List V)) hP' hb1
      generalize upd H' b1 (.tup []) = H1' at s1 g1 P1 hb2 hb3 hb4 hb5 ⊢
      have s2 := same_new (o := .tup [V.int 0, V.ref b1]) hb2
      have g2 : upd H1' b2 (.tup [V.int 0, V.ref b1]) b2 = some (.tup [V.int 0, V.ref b1]) := upd_same
      have P2 := pool_new (o := .tup [V.int 0, V.ref b1]) P1 hb2
      generalize upd H1' b2 (.tup [V.int 0, V.ref b1]) = H2' at s2 g2 P2 hb3 hb4 hb5 ⊢
      have s3 := same_new (o := .tup [V.ref b2]) hb3
      have g3 : upd H2' b3 (.tup [V.ref b2]) b3 = some (.tup [V.ref b2]) := upd_same
      have P3 := pool_new (o := .tup [V.ref b2]) P2 hb3
      generalize upd H2' b3 (.tup [V.ref b2]) = H3' at s3 g3 P3 hb4 hb5 ⊢
      have s4 := same_new (o := .tup [V.str "start", V.str "code", V.ref b3]) hb4
      have g4 : upd H3' b4 (.tup [V.str "start", V.str "code", V.ref b3]) b4 = some (.tup [V.str "start", V.str "code", V.ref b3]) := upd_same
      have P4 := pool_new (o := .tup [V.str "start", V.str "code", V.ref b3]) P3 hb4
      generalize upd H3' b4 (.tup [V.str "start", V.str "code", V.ref b3]) = H4' at s4 g4 P4 hb5 ⊢
      have s5 := same_new (o := .lst [V.ref b4]) hb5
      have g5 : upd H4' b5 (.lst [V.ref b4]) b5 = some (.lst [V.ref b4]) := upd_same
      have P5 := pool_new (o := .lst [V.ref b4]) P4 hb5
      generalize upd H4' b5 (.lst [V.ref b4]) = H5' at s5 g5 P5 ⊢
      have s15 := s1.trans (s2.trans (s3.trans (s4.trans s5)))
      refine ⟨_, rfl, b5, F0, _, _, rfl, rfl, g5, s15 _ _ hF', (by show 1 + vs.length ≤ sizeLine; exact Nat.le_of_lt (small1000 (by omega))), fun M2 hM2 => ?_⟩
      have s6 := same_new (o := .lst ([V.ref b4] ++ vs)) hM2
      have s16 := s15.trans s6
      have M2p : M2 ≠ p := pool_ne P5 hM2
      refine q M2 (V.ref b4 :: vs) pcs _ _ (fun b x hb e => s16 _ _ (d' b x hb e)) (pool_new P5 hM2) ?_ ?_ upd_same ?_ (pcs_ok okz nod hmap (by omega) hown) ?_ fun x hx => zn _ (hown x hx).1
      · have : zs.length ≤ 4 := by omega
        omega
      · cases e : H M2 with
        | none => rfl
        | some x => rw [s15 _ _ (d' _ _ M2p e)] at hM2; cases hM2
      · refine .cons ⟨b4, b3, [V.ref b2], rfl, s6 _ _ (s5 _ _ g4), s6 _ _ (s5 _ _ (s4 _ _ g3)), .cons ⟨b2, b1, [], rfl, s6 _ _ (s5 _ _ (s4 _ _ (s3 _ _ g2))), s6 _ _ (s5 _ _ (s4 _ _ (s3 _ _ (s2 _ _ g1)))), .nil⟩ .nil⟩ (eachs_imp (fun _ _ => pieceT_s (TupS.of s16)) hvs)
      · rw [← List.length_map (f := (·.1)), hmap]
        omega
end
end DR

namespace DR
open PySem PySem.Spec PyProof.Rows L2
/-! ### _law_due -/
theorem inV_ints (k : Int) (ns : List Int) : inV (.int k) (ns.map V.int) = decide (k ∈ ns) := by
  unfold inV
  rw [List.any_map, Bool.eq_iff_iff, List.any_eq_true, decide_eq_true_iff]
  constructor
  · rintro ⟨x, hx, e⟩
    have : (x == k) = true := e
    have : x = k := by simpa using this
    rwa [← this]
  · intro h
    refine ⟨k, h, ?_⟩
    show (k == k) = true
    simp
theorem all_flat (ns : List Int) : (ns.map V.int).all flatV = true := by
  rw [List.all_map, List.all_eq_true]
  intro x _
  rfl
def steps (b : Int) (n : Nat) : List Int := (List.range n).map fun j => b + ((j : Nat) : Int)
theorem steps_take (b : Int) (n i : Nat) (h : i < n) : (steps b n).take (i + 1) = (steps b n).take i ++ [b + ((i : Nat) : Int)] := by
  unfold steps
  rw [List.take_add_one, List.getElem?_map, List.getElem?_range h]
  rfl
theorem steps_mem {b x : Int} {n : Nat} : x ∈ steps b n ↔ b ≤ x ∧ x < b + (n : Int) := by
  unfold steps
  rw [List.mem_map]
  constructor
  · rintro ⟨j, hj, rfl⟩
    rw [List.mem_range] at hj
    omega
  · rintro ⟨h1, h2⟩
    exact ⟨(x - b).toNat, by rw [List.mem_range]; omega, by omega⟩
theorem any_hit (z z' : Str) (b b' : Int) (n m : Nat) : ((steps b n).map fun x => decide (x ∈ steps b' m)).any id = hit (z, b, b + (n : Int)) (z', b', b' + (m : Int)) := by
  unfold hit
  rw [List.any_map, Bool.eq_iff_iff, List.any_eq_true, decide_eq_true_iff]
  show (∃ x, x ∈ steps b n ∧ decide (x ∈ steps b' m) = true) ↔ (if b' > b then b' else b) < (if b' + (m : Int) < b + (n : Int) then b' + (m : Int) else b + (n : Int))
  constructor
  · rintro ⟨x, hx, hy⟩
    rw [steps_mem] at hx
    have hy := steps_mem.mp (of_decide_eq_true hy)
    split <;> split <;> omega
  · intro h
    refine ⟨if b' > b then b' else b, ?_, decide_eq_true ?_⟩
    · rw [steps_mem]
      split at h <;> split at h <;> (split <;> omega)
    · rw [steps_mem]
      split at h <;> split at h <;> (split <;> omega)
abbrev leP2 (a b : Int × Int) : Prop := SrtO.lexB b a = false
def pairI (c : Int × Int) : PyData := .tuple [.int c.1, .int c.2]
/-- what is due -/
inductive DueD (a : PlA) (pcs : List Pc) : PyData → Prop
  | place (q : Pc) : plBad a pcs = some q → DueD a pcs (.tuple [.str "place", .str q.1])
  | over (l : Pl) (s t : Spot) : a = .dct l → plBad a pcs = none → overOf (spotsOf l pcs) = some (s, t) → DueD a pcs (.tuple [.str "over", .tuple [.str s.1, .str t.1]])
  | told (l : Pl) (ds : List (Int × Int)) : a = .dct l → plBad a pcs = none → overOf (spotsOf l pcs) = none → ds.Perm (pcs.flatMap (cells l)) → ds.Pairwise leP2 → DueD a pcs (.tuple [.str "told", .list (ds.map pairI)])
def spDue (K : PySem.W.Frag) : Sp := fun vs H Q _ => ∃ (L : Addr) (v : V) (xs : List V) (pcs : List Pc) (a : PlA), vs = [.ref L, v] ∧ H L = some (.lst xs) ∧ PySem.W.EachIs (PieceT H) xs pcs ∧ PcsOk pcs ∧ pcs ≠ [] ∧ PlV K H v a ∧ ∀ r d H', Same H H' → Dp K H' r d → DueD a pcs d → Q r H'
abbrev sDue : Stmt := topS 46
theorem scDue : FnScope ["pieces", "places", "p", "kind", "words", "k", "q", "other", "more", "twin", "worths", "pairs", "j", "word"] ["pieces", "places"] (defScope sDue) := ⟨rfl, rfl, rfl, by decide +kernel, rfl, by decide +kernel, by decide +kernel⟩
abbrev ND : List Str := ["pieces", "places", "p", "kind", "words", "k", "q", "other", "more", "twin", "worths", "pairs", "j", "word"]
abbrev tAdd2 (a b : TE) : TE := tOp (rI0 fun i j => .int (i + j)) a b
/-- the pair at v -/
def PrT (H : Hp) (v : V) (c : Int × Int) : Prop := ∃ t, v = .ref t ∧ H t = some (.tup [.int c.1, .int c.2])
theorem prT_s {H H' : Hp} (e : TupS H H') {v : V} {c : Int × Int} (h : PrT H v c) : PrT H' v c := by
  obtain ⟨t, h1, h2⟩ := h
  exact ⟨t, h1, e _ _ h2⟩
theorem prT_dp {K : PySem.W.Frag} {H : Hp} {v : V} {c : Int × Int} (h : PrT H v c) : Dp K H v (pairI c) := by
  obtain ⟨t, rfl, h2⟩ := h
  exact .tup (SqT.of h2) (.cons (.int _) (.cons (.int _) .nil))
/-- what a pair says -/
def kPr (H : Hp) : V → Int × Int
  | .ref t => match H t with
    | some (.tup [.int i, .int j]) => (i, j)
    | _ => (0, 0)
  | _ => (0, 0)
theorem kPr_at {H : Hp} {v : V} {c : Int × Int} (h : PrT H v c) : kPr H v = c := by
  obtain ⟨t, rfl, h2⟩ := h
  show (match H t with | some (.tup [.int i, .int j]) => (i, j) | _ => (0, 0)) = c
  rw [h2]
theorem each_kPr {H : Hp} : ∀ {vs : List V} {cs : List (Int × Int)}, PySem.W.EachIs (PrT H) vs cs → cs = vs.map (kPr H)
  | _, _, .nil => rfl
  | _, _, .cons h t => by rw [List.map_cons, kPr_at h, ← each_kPr t]
theorem each_of {H : Hp} {vs : List V} (h : ∀ v ∈ vs, ∃ c, PrT H v c) : PySem.W.EachIs (PrT H) vs (vs.map (kPr H)) := by
  induction vs with
  | nil => exact .nil
  | cons v vs ih =>
    obtain ⟨c, hc⟩ := h v (List.mem_cons_self ..)
    rw [List.map_cons, kPr_at hc]
    exact .cons hc (ih fun x hx => h x (List.mem_cons_of_mem _ hx))
theorem each_dp {K : PySem.W.Frag} {H : Hp} : ∀ {vs : List V} {cs : List (Int × Int)}, PySem.W.EachIs (PrT H) vs cs → DpAll K H vs (cs.map pairI)
  | _, _, .nil => .nil
  | _, _, .cons h t => .cons (prT_dp h) (each_dp t)
theorem each_mem {α β : Type} {R : α → β → Prop} : ∀ {xs : List α} {ys : List β}, PySem.W.EachIs R xs ys → ∀ x ∈ xs, ∃ y ∈ ys, R x y
  | _, _, .cons h t, x, hx => by
    rcases List.mem_cons.mp hx with rfl | hx
    · exact ⟨_, List.mem_cons_self .., h⟩
    · obtain ⟨y, h1, h2⟩ := each_mem t x hx
      exact ⟨y, List.mem_cons_of_mem _ h1, h2⟩
end DR

namespace DR
open PySem PySem.Spec PyProof.Rows L2
theorem worths_val {l : Pl} {pcs : List Pc} (ok : PcsOk pcs) {q : Pc} (hq : q ∈ pcs) : valV (pcs.map fun q => (([.inr sPiece, .inr q.1] : List Key), V.int (plI l q.1))) ([.inr sPiece, .inr q.1] : List Key) = some (.int (plI l q.1)) := by
  have nod := ok.nod
  clear ok
  unfold valV
  induction pcs with
  | nil => cases hq
  | cons p pcs ih =>
    rw [List.map_cons]
    rw [List.map_cons, List.nodup_cons] at nod
    by_cases c : p.1 = q.1
    · rw [List.find?_cons_of_pos (by simp [c])]
      show some (V.int (plI l p.1)) = _
      rw [c]
    · rw [List.find?_cons_of_neg (by simp [c])]
      rcases List.mem_cons.mp hq with rfl | hq
      · exact absurd rfl c
      · exact ih hq nod.2
theorem paired_snoc {α β : Type} {R : α → β → Prop} {a : α} {b : β} (h : R a b) : ∀ {as : List α} {bs : List β}, Paired R as bs → Paired R (as ++ [a]) (bs ++ [b])
  | _, _, .nil => .cons h .nil
  | _, _, .cons r t => .cons r (paired_snoc h t)
theorem paired_imp {α β : Type} {R S : α → β → Prop} (f : ∀ a b, R a b → S a b) : ∀ {as : List α} {bs : List β}, Paired R as bs → Paired S as bs
  | _, _, .nil => .nil
  | _, _, .cons r t => .cons (f _ _ r) (paired_imp f t)
theorem pairD_s {K : PySem.W.Frag} {H H' : Hp} (e : ∀ c xs, SqT K H c xs → SqT K H' c xs) (e2 : TupS H H') {p : Addr} {kv : List Key × V} (h : PairD K H p kv) : PairD K H' p kv := by
  obtain ⟨b, h1, h2⟩ := h
  exact ⟨b, e _ _ h1, e2 _ _ h2⟩
theorem eachs_app {α β : Type} {R : α → β → Prop} : ∀ {as cs : List α} {bs ds : List β}, PySem.W.EachIs R as bs → PySem.W.EachIs R cs ds → PySem.W.EachIs R (as ++ cs) (bs ++ ds)
  | _, _, _, _, .nil, h => h
  | _, _, _, _, .cons r t, h => .cons r (eachs_app t h)
theorem sqT_put' {K : PySem.W.Frag} {H : Hp} {D c : Addr} {xs : List V} {o : HO} (hD : ∃ ys, H D = some (.lst ys)) (h : SqT K H c xs) : SqT K (upd H D o) c xs := by
  obtain ⟨ys, hD⟩ := hD
  rcases h with (h | ⟨u, h⟩) | h
  · exact .inl (.inl (by rw [upd_ne (ne_of h hD (by intro z; cases z))]; exact h))
  · exact .inl (.inr ⟨u, by rw [upd_ne (ne_of h hD (by intro z; cases z))]; exact h⟩)
  · exact .inr h
def wkv (l : Pl) (pcs : List Pc) : List (List Key × V) := pcs.map fun q => (([.inr sPiece, .inr q.1] : List Key), V.int (plI l q.1))
theorem wkv_nod {l : Pl} {pcs : List Pc} (ok : PcsOk pcs) : ((wkv l pcs).map (·.1)).Nodup := by
  have e : (wkv l pcs).map (·.1) = (pcs.map (·.1)).map fun z => ([.inr sPiece, .inr z] : List Key) := by
    unfold wkv
    rw [List.map_map, List.map_map]
    rfl
  rw [e]
  exact List.pairwise_map.mpr (ok.nod.imp fun h e => h (by simpa using e))
section
variable {P : Program} {w : World} {K : PySem.W.Frag} {mg : Str → Option Value} {base : Heap}
theorem ok_due {f : Addr} {fd : FuncData} (F : Fun K "_law_due" "_law_due" sDue f fd) (T : Bi mg) (TA : mg "any" = none) (G : Has P w K mg base CX0 1 "_law_worth" ["one", "worths"] (spLWorth K)) : FnOk P w K mg base CX0 2 f fd ["pieces", "places"] (spDue K) := by
  refine F.ok scDue (fun vs H Q E h => ?_) (fun cdv A outer s H vs Q E hr h => ?_)
  · obtain ⟨L, v, xs, pcs, a, rfl, _⟩ := h
    rfl
  · obtain ⟨L, v, xs, pcs, a, rfl, hL, hxs, ok, ne, hv, q⟩ := h
    have hu := hu_of hr
    have few := ok.few
    refine ⟨_, (pss_cons (ps_if (pt_not (pt_val (pe_callB call_isi (by rfl) T.isinstance (by decide +kernel) (pa_cons (pv 1) (pa_cons (pe_bltn (v := .ty "dict") (by rfl) T.dict (by decide +kernel) rfl) pa_nil))))) (pss_one (ps_ret (pe_tup (pa_cons pe_str (pa_cons (pe_ix ix_tup (pe_ix ix_list (pv 0) pe_int (fun _ _ => rfl)) pe_int (fun _ _ => rfl)) pa_nil))))) pss_nil)
      (pss_cons (ps_for PassesOwn.never rfl (pi_list (pv 0)) (pg_tup rfl (pgs_cons (pg_name (i := 2) scDue.nd rfl (.inr rfl)) (pgs_cons (pg_name (i := 3) scDue.nd rfl (.inl rfl)) (pgs_cons (pg_name (i := 4) scDue.nd rfl (.inl rfl)) pgs_nil)))) (pss_one (ps_if (PW.pt (pw_or (pt_not (pt_val (pe_callB call_isi (by rfl) T.isinstance (by decide +kernel) (pa_cons (pe_dget1 hu (pv 1) (pv 2) ⟨rfl, rfl, rfl, rfl⟩) (pa_cons (pe_bltn (v := .ty "int") (by rfl) T.int (by decide +kernel) rfl) pa_nil))))) (pw_or1 (pt_val (pe_callB call_isi (by rfl) T.isinstance (by decide +kernel) (pa_cons (pe_dget1 hu (pv 1) (pv 2) ⟨rfl, rfl, rfl, rfl⟩) (pa_cons (pe_bltn (v := .ty "bool") (by rfl) T.bool (by decide +kernel) rfl) pa_nil))))))) (pss_one (ps_ret (pe_tup (pa_cons pe_str (pa_cons (pv 2) pa_nil))))) pss_nil)))
      (pss_cons (ps_for PassesOwn.never rfl (pi_enum (by rfl) T.enumerate (pa_cons (pv 0) pa_nil)) (pg_tup rfl (pgs_cons (pg_name (i := 5) scDue.nd rfl (.inl rfl)) (pgs_cons (pg_tup rfl (pgs_cons (pg_name (i := 2) scDue.nd rfl (.inr rfl)) (pgs_cons (pg_name (i := 3) scDue.nd rfl (.inl rfl)) (pgs_cons (pg_name (i := 4) scDue.nd rfl (.inl rfl)) pgs_nil)))) pgs_nil))) (pss_one (ps_for PassesOwn.never rfl (pi_list (pe_slice sl_list (pv 0) (po_some (pe_op op_add (pv 5) pe_int)) po_none)) (pg_tup rfl (pgs_cons (pg_name (i := 6) scDue.nd rfl (.inr rfl)) (pgs_cons (pg_name (i := 7) scDue.nd rfl (.inl rfl)) (pgs_cons (pg_name (i := 8) scDue.nd rfl (.inl rfl)) pgs_nil)))) (pss_cons (ps_set (i := 9) scDue.nd rfl (.inr rfl) (pe_lc (own := [("j", 12)]) (g := gName 12) (tt := tYes) (te := tAdd2 (tDGet (tVar 1) (tVar 6)) (tVar 12)) rfl scDue.nd (pi_range1 (by rfl) T.range (pa_cons (pe_callB call_len_seq (by rfl) T.len (by decide +kernel) (pa_cons (pv 8) pa_nil)) pa_nil)) (blkOk_by (N := ND) (sc := defScope sDue) (by decide +kernel)) (fun _ _ _ _ _ => pg_name (i := 12) scDue.nd rfl (.inl rfl)) (fun _ _ _ _ _ => pts_nil) (fun _ _ _ _ _ => (pe_op op_add (pe_dget hu (pv 1) (pv 6) (fun _ _ => rfl)) (pv 12)))))
      (pss_one (ps_if (pt_val (pe_callB (cr_any rfl) (by rfl) TA (by decide +kernel) (pa_cons (pe_lc (own := [("j", 12)]) (g := gName 12) (tt := tYes) (te := tOp (rIn K false) (tAdd2 (tDGet (tVar 1) (tVar 2)) (tVar 12)) (tVar 9)) rfl scDue.nd (pi_range1 (by rfl) T.range (pa_cons (pe_callB call_len_seq (by rfl) T.len (by decide +kernel) (pa_cons (pv 4) pa_nil)) pa_nil)) (blkOk_by (N := ND) (sc := defScope sDue) (by decide +kernel)) (fun _ _ _ _ _ => pg_name (i := 12) scDue.nd rfl (.inl rfl)) (fun _ _ _ _ _ => pts_nil) (fun _ _ _ _ _ => (pe_cmpR op_in_seq (pe_op op_add (pe_dget hu (pv 1) (pv 2) (fun _ _ => rfl)) (pv 12)) (pv 9) (by rfl)))) pa_nil))) (pss_one (ps_ret (pe_tup (pa_cons pe_str (pa_cons (pe_tup (pa_cons (pv 2) (pa_cons (pv 6) pa_nil))) pa_nil))))) pss_nil))))))
      (pss_cons (ps_set (i := 10) scDue.nd rfl (.inr rfl) (pe_callTy (call_dictT hr rfl) (by rfl) T.dict (by decide +kernel) (pa_cons (pe_lc (own := [("p", 2), ("kind", 3), ("words", 4)]) (g := gTup K 3 (gCons (gName 2) (gCons (gName 3) (gCons (gName 4) gNil)))) (tt := tYes) (te := tTup (tCons (tTup (tCons (tC (.str "piece")) (tCons (tVar 2) tNil))) (tCons (tDGet (tVar 1) (tVar 2)) tNil))) rfl scDue.nd (pi_list (pv 0)) (blkOk_by (N := ND) (sc := defScope sDue) (by decide +kernel)) (fun _ _ _ _ _ => (pg_tup rfl (pgs_cons (pg_name (i := 2) scDue.nd rfl (.inl rfl)) (pgs_cons (pg_name (i := 3) scDue.nd rfl (.inl rfl)) (pgs_cons (pg_name (i := 4) scDue.nd rfl (.inl rfl)) pgs_nil))))) (fun _ _ _ _ _ => pts_nil) (fun _ _ _ _ _ => (pe_tup (pa_cons (pe_tup (pa_cons pe_str (pa_cons (pv 2) pa_nil))) (pa_cons (pe_dget hu (pv 1) (pv 2) (fun _ _ => rfl)) pa_nil))))) pa_nil)))
      (pss_cons (ps_set (i := 11) scDue.nd rfl (.inl rfl) (pe_lst pa_nil))
      (pss_cons (ps_for PassesOwn.never rfl (pi_list (pv 0)) (pg_tup rfl (pgs_cons (pg_name (i := 2) scDue.nd rfl (.inr rfl)) (pgs_cons (pg_name (i := 3) scDue.nd rfl (.inl rfl)) (pgs_cons (pg_name (i := 4) scDue.nd rfl (.inl rfl)) pgs_nil)))) (pss_one (ps_expr (pe_bm PySem.F.plainAttrs_list PySem.F.slot_list_extend PySem.F.type_list_extend mt_extend (pv 11) (pa_cons (pe_lc (own := [("k", 5), ("word", 13)]) (g := gTup K 2 (gCons (gName 5) (gCons (gName 13) gNil))) (tt := tYes) (te := tTup (tCons (tAdd2 (tDGet (tVar 1) (tVar 2)) (tVar 5)) (tCons (tCall (spLWorth K) [] E0 (tCons (tVar 13) (tCons (tVar 10) tNil))) tNil))) rfl scDue.nd (pi_enumT (by rfl) T.enumerate (pa_cons (pv 4) pa_nil)) (blkOk_by (N := ND) (sc := defScope sDue) (by decide +kernel)) (fun _ _ _ _ _ => (pg_tup rfl (pgs_cons (pg_name (i := 5) scDue.nd rfl (.inl rfl)) (pgs_cons (pg_name (i := 13) scDue.nd rfl (.inl rfl)) pgs_nil)))) (fun _ _ _ _ _ => pts_nil) (fun _ _ _ _ _ => (pe_tup (pa_cons (pe_op op_add (pe_dget hu (pv 1) (pv 2) (fun _ _ => rfl)) (pv 5)) (pa_cons (pe_callH G hr (by rfl) pass0 (pa_cons (pv 13) (pa_cons (pv 10) pa_nil))) pa_nil))))) pa_nil)))))
      (pss_one (ps_ret (pe_tup (pa_cons pe_str (pa_cons (pe_callB cr_sortedPO (by rfl) T.sorted (by decide +kernel) (pa_cons (pv 11) pa_nil)) pa_nil))))))))))), ?_⟩
    have lx : xs.length = pcs.length := hxs.length
    cases a with
    | oth d =>
      refine ⟨_, rfl, v, _, _, _, _, rfl, .ty "dict", th_ty (.dat hv.1), hv.2, _, rfl, iteT ?_⟩
      cases hxs with
      | nil => exact absurd rfl ne
      | @cons x0 q1 xr qr hp hr' =>
        obtain ⟨t, b, ws, rfl, ht, hb, hws⟩ := hp
        refine ⟨_, rfl, L, _, _, _, rfl, rfl, SqL.of hL, at_of (i := 0) rfl, t, _, _, _, rfl, rfl, SqT.of ht, at_of (i := 0) rfl, (by show 2 ≤ sizeLine; decide), fun p hp => ?_⟩
        exact q _ _ _ (same_new hp) (.tup (SqT.of upd_same) (.cons (.str _) (.cons (.str _) .nil))) (.place q1 rfl)
    | dct l =>
      obtain ⟨D, rfl, hD, hl, hsz⟩ := hv
      refine ⟨_, rfl, .ref D, _, _, _, _, rfl, .ty "dict", .base (.dK hD), kit_dd, _, rfl, iteF ?_⟩
      refine ⟨_, rfl, L, rfl, ⟨_, SqL.of hL⟩, ?_⟩
      refine for_it (walk_list (xs := xs)) (fun i σ H4 => ∃ (w2 w3 w4 : Option V), σ = [some (.ref L), some (.ref D), w2, w3, w4, none, none, none, none, none, none, none, none, none] ∧ Same H H4 ∧ (pcs.take i).find? (fun q => !okP (.dct l) q.1) = none)
        ⟨none, none, none, rfl, fun _ _ e => e, rfl⟩ (fun i σ H4 _ ⟨_, _, _, _, s4, _⟩ => SqL.of (s4 _ _ hL)) ?_ ?_
      · rintro i y σ H4 H4' hi ⟨w2, w3, w4, rfl, s4, nb⟩ ⟨rfl, hy⟩
        obtain ⟨pc, hpc, hp⟩ := eachs_get hxs hy
        obtain ⟨t, b, ws, rfl, ht, hb, hws⟩ := pieceT_s (TupS.of s4) hp
        have hD4 := s4 _ _ hD
        refine ⟨t, _, rfl, SqT.of ht, rfl, _, _, rfl, _, _, rfl, _, _, rfl, rfl, ?_⟩
        obtain ⟨c, e1, e2⟩ : ∃ c : Sc, ((l.lookup pc.1).map Sc.v).getD .non = c.v ∧ okP (.dct l) pc.1 = isI c.d := by
          show ∃ c : Sc, _ ∧ okS (l.lookup pc.1) = isI c.d
          cases l.lookup pc.1 with
          | none => exact ⟨.no, rfl, rfl⟩
          | some c => exact ⟨c, rfl, rfl⟩
        refine ⟨_, rfl, D, rfl, .inl ⟨_, .inl hD4⟩, _, rfl, _, DGet.k (k := .inr pc.1) hD4, ?_⟩
        rw [plD_val, e1]
        refine ⟨c.v, _, _, _, _, rfl, .ty "int", th_ty (.dat c.th), kit_int c.d, _, rfl, ?_⟩
        have ret : okP (.dct l) pc.1 = false → ∀ p, H4' p = none → Q (.ref p) (upd H4' p (.tup [.str "place", .str pc.1])) := fun e3 p hp =>
          q _ _ _ (s4.trans (same_new hp)) (.tup (SqT.of upd_same) (.cons (.str _) (.cons (.str _) .nil))) (.place pc (find_at nb hpc (by rw [e3]; rfl)))
        cases c with
        | i n =>
          refine iteF ⟨_, rfl, D, rfl, .inl ⟨_, .inl hD4⟩, _, rfl, _, DGet.k (k := .inr pc.1) hD4, ?_⟩
          rw [plD_val, e1]
          refine ⟨_, _, _, _, _, rfl, .ty "bool", th_ty (.dat (.int n)), kit_bool (.int n), _, rfl, ?_⟩
          exact iteF ⟨_, _, _, rfl, s4, find_step nb hpc (by rw [e2]; rfl)⟩
        | no =>
          refine iteT (iteT ?_)
          exact ⟨_, rfl, (by show 2 ≤ sizeLine; decide), ret e2⟩
        | tr =>
          refine iteF ⟨_, rfl, D, rfl, .inl ⟨_, .inl hD4⟩, _, rfl, _, DGet.k (k := .inr pc.1) hD4, ?_⟩
          rw [plD_val, e1]
          refine ⟨_, _, _, _, _, rfl, .ty "bool", th_ty (.dat (.bl true)), kit_bool (.bool true), _, rfl, ?_⟩
          refine iteT ?_
          exact ⟨_, rfl, (by show 2 ≤ sizeLine; decide), ret e2⟩
        | s x =>
          refine iteT (iteT ?_)
          exact ⟨_, rfl, (by show 2 ≤ sizeLine; decide), ret e2⟩
      · rintro σ H4 ⟨w2, w3, w4, rfl, s4, nb⟩
        rw [lx, List.take_length] at nb
        have nb : plBad (.dct l) pcs = none := nb
        have hval : ∀ q ∈ pcs, valV (plD l) (.inr q.1) = some (.int (plI l q.1)) := fun q hq => ok_val (bad_none nb q hq)
        have hL4 := s4 _ _ hL
        refine ⟨_, rfl, L, xs, rfl, SqL.of hL4, ?_⟩
        refine for_it walk_enum (fun i σ H5 => ∃ (w2 w3 w4 w5 w6 w7 w8 w9 : Option V), σ = [some (.ref L), some (.ref D), w2, w3, w4, w5, w6, w7, w8, w9, none, none, none, none] ∧ Same H H5 ∧ overOf (spotsOf l pcs) = overOf ((spotsOf l pcs).drop i))
          ⟨_, _, _, _, _, _, _, _, rfl, s4, rfl⟩ (fun i σ H5 _ ⟨_, _, _, _, _, _, _, _, _, s5, _⟩ => SqL.of (s5 _ _ hL)) ?_ ?_
        · rintro i y σ H5 H5' hi ⟨w2, w3, w4, w5, w6, w7, w8, w9, rfl, s5, ov⟩ ⟨TT, y1, y2, rfl, hT, rfl, hy1, hy2⟩
          cases hy1
          have hy2 : xs[i]? = some y2 := hy2
          obtain ⟨pc, hpc, hp⟩ := eachs_get hxs hy2
          have i2 : i < pcs.length := (List.getElem?_eq_some_iff.mp hpc).1
          have sT := same_new (o := .tup [V.int (i : Nat), y2]) hT
          have hT6 : upd H5 TT (.tup [V.int (i : Nat), y2]) TT = some (.tup [V.int (i : Nat), y2]) := upd_same
          generalize upd H5 TT (.tup [V.int (i : Nat), y2]) = H6 at sT hT6 ⊢
          have s6 := s5.trans sT
          obtain ⟨t, b, ws, rfl, ht, hb, hws⟩ := pieceT_s (TupS.of s6) hp
          have lw : ws.length = pc.2.length := hws.length
          have pfew := (ok.each pc (List.mem_of_getElem? hpc)).few
          refine ⟨TT, _, rfl, SqT.of hT6, rfl, _, _, rfl, _, _, rfl, ⟨t, _, rfl, SqT.of ht, rfl, _, _, rfl, _, _, rfl, _, _, rfl, rfl, rfl, ?_⟩⟩
          refine ⟨_, rfl, _, rfl, _, _, rfl, rfl, _, rfl, L, xs, rfl, SqL.of (s6 _ _ hL), fun a2 ha2 => ?_⟩
          have er : ((i : Nat) : Int) + 1 = ((i + 1 : Nat) : Int) := by omega
          rw [er, cut_from (by omega)] at *
          have s7 := same_new (o := .lst (xs.drop (i + 1))) ha2
          have hl7 : upd H6 a2 (.lst (xs.drop (i + 1))) a2 = some (.lst (xs.drop (i + 1))) := upd_same
          generalize upd H6 a2 (.lst (xs.drop (i + 1))) = H7 at s7 hl7 ⊢
          have s07 := s6.trans s7
          have hsp : (spotsOf l pcs)[i]? = some (pc.1, plI l pc.1, plI l pc.1 + (pc.2.length : Int)) := by
            unfold spotsOf
            rw [List.getElem?_map, hpc]
            rfl
          have hd : (spotsOf l pcs).drop i = (pc.1, plI l pc.1, plI l pc.1 + (pc.2.length : Int)) :: (spotsOf l pcs).drop (i + 1) := by
            have h1 := (List.getElem?_eq_some_iff.mp hsp).1
            have h2 : (spotsOf l pcs)[i] = _ := (List.getElem?_eq_some_iff.mp hsp).2
            rw [← h2, ← List.drop_eq_getElem_cons h1]
          rw [hd] at ov
          have hds := each_drop (i + 1) hxs
          have ld : (xs.drop (i + 1)).length = ((spotsOf l pcs).drop (i + 1)).length := by
            unfold spotsOf
            rw [List.length_drop, List.length_drop, List.length_map, lx]
          refine ⟨a2, rfl, ⟨_, SqL.of hl7⟩, ?_⟩
          refine for_it (walk_list (xs := xs.drop (i + 1))) (fun j σ H8 => ∃ (w6 w7 w8 w9 : Option V), σ = [some (.ref L), some (.ref D), some (.str pc.1), some (.str "code"), some (.ref b), some (.int ((i : Nat) : Int)), w6, w7, w8, w9, none, none, none, none] ∧ Same H7 H8 ∧ (((spotsOf l pcs).drop (i + 1)).take j).find? (hit (pc.1, plI l pc.1, plI l pc.1 + (pc.2.length : Int))) = none)
            ⟨_, _, _, _, rfl, fun _ _ e => e, rfl⟩ (fun j σ H8 _ ⟨_, _, _, _, _, s8, _⟩ => SqL.of (s8 _ _ hl7)) ?_ ?_
          · rintro j z σ H8 H8' hj ⟨w6, w7, w8, w9, rfl, s8, nh⟩ ⟨rfl, hz⟩
            obtain ⟨qc, hqc, hq⟩ := eachs_get hds hz
            have s08 := s07.trans s8
            obtain ⟨t2, b2, ws2, rfl, ht2, hb2, hws2⟩ := pieceT_s (TupS.of s08) hq
            have lw2 : ws2.length = qc.2.length := hws2.length
            have hqm : qc ∈ pcs := List.mem_of_mem_drop (List.mem_of_getElem? hqc)
            have qfew := (ok.each qc hqm).few
            have hs2 : ((spotsOf l pcs).drop (i + 1))[j]? = some (qc.1, plI l qc.1, plI l qc.1 + (qc.2.length : Int)) := by
              unfold spotsOf
              rw [← List.map_drop, List.getElem?_map, hqc]
              rfl
            refine ⟨t2, _, rfl, SqT.of ht2, rfl, _, _, rfl, _, _, rfl, _, _, rfl, rfl, ?_⟩
            refine ⟨_, rfl, b2, ws2, rfl, .inr (SqT.of hb2), _, rfl, by omega, by omega, fun D9 hD9 => ?_⟩
            have k9 : ∀ {H' : Hp}, (∀ b o, b ≠ D9 → H8' b = some o → H' b = some o) → Same H8' H' := fun kp b o e => kp b o (ne_of_none e hD9) e
            have e2 : ((ws2.length : Int)).toNat = qc.2.length := by omega
            have e1 : ((ws.length : Int)).toNat = pc.2.length := by omega
            refine lc_range (lo := 0) (n := ((ws2.length : Int)).toNat) (fun k H' => (∀ b o, b ≠ D9 → H8' b = some o → H' b = some o) ∧ H' D9 = some (.lst (((steps (plI l qc.1) qc.2.length).take k).map V.int)))
              ⟨fun c o hc e => by rw [upd_ne hc]; exact e, upd_same⟩ ?_ ?_
            · rintro k H' hk ⟨kp, hD9'⟩
              rw [e2] at hk
              have g := DGet.k (k := .inr qc.1) (k9 kp _ _ (s08 _ _ hD))
              rw [hval _ hqm] at g
              refine ⟨rfl, yes_go (iteT ⟨_, rfl, _, rfl, D, _, rfl, g, _, rfl, _, _, rfl, rfl, _, hD9', small1000 ?_, fun c o hc e => by rw [upd_ne hc]; exact kp c o hc e, ?_⟩)⟩
              · rw [List.length_map, List.length_take]
                omega
              · rw [upd_same, steps_take _ _ _ hk, List.map_append, show (0 : Int) + ((k : Nat) : Int) = ((k : Nat) : Int) by omega]
                rfl
            · rintro H9 ⟨kp9, hD9'⟩
              have ls : (steps (plI l qc.1) qc.2.length).length = qc.2.length := by unfold steps; rw [List.length_map, List.length_range]
              rw [e2, List.take_of_length_le (Nat.le_of_eq ls)] at hD9'
              have s9 := k9 kp9
              have s09 := s08.trans s9
              have hbb := (s7.trans (s8.trans s9)) _ _ hb
              refine ⟨_, rfl, b, ws, rfl, .inr (SqT.of hbb), _, rfl, by omega, by omega, fun Da hDa => ?_⟩
              have ka : ∀ {H' : Hp}, (∀ b o, b ≠ Da → H9 b = some o → H' b = some o) → Same H9 H' := fun kp b o e => kp b o (ne_of_none e hDa) e
              refine lc_range (lo := 0) (n := ((ws.length : Int)).toNat) (fun k H' => (∀ b o, b ≠ Da → H9 b = some o → H' b = some o) ∧ H' Da = some (.lst ((((steps (plI l pc.1) pc.2.length).take k).map fun x => decide (x ∈ steps (plI l qc.1) qc.2.length)).map V.bl)))
                ⟨fun c o hc e => by rw [upd_ne hc]; exact e, upd_same⟩ ?_ ?_
              · rintro k H' hk ⟨kp, hDa'⟩
                rw [e1] at hk
                have g := DGet.k (k := .inr pc.1) (ka kp _ _ (s09 _ _ hD))
                rw [hval _ (List.mem_of_getElem? hpc)] at g
                refine ⟨rfl, yes_go (iteT ⟨_, rfl, _, rfl, D, _, rfl, g, _, rfl, _, _, rfl, rfl, _, rfl, D9, _, rfl, .inl (SqL.of (ka kp _ _ hD9')), rfl, all_flat _, _, hDa', small1000 ?_, fun c o hc e => by rw [upd_ne hc]; exact kp c o hc e, ?_⟩)⟩
                · rw [List.length_map, List.length_map, List.length_take]
                  omega
                · rw [upd_same, steps_take _ _ _ hk, List.map_append, List.map_append, show (0 : Int) + ((k : Nat) : Int) = ((k : Nat) : Int) by omega]
                  show some (HO.lst (_ ++ [V.bl (inV _ _)])) = _
                  rw [inV_ints]
                  rfl
              · rintro Ha ⟨kpa, hDa'⟩
                have ls1 : (steps (plI l pc.1) pc.2.length).length = pc.2.length := by unfold steps; rw [List.length_map, List.length_range]
                rw [e1, List.take_of_length_le (Nat.le_of_eq ls1)] at hDa'
                have sa := ka kpa
                refine ⟨Da, _, rfl, SqL.of hDa', _, rfl, ?_⟩
                rw [any_hit pc.1 qc.1]
                cases hh : hit (pc.1, plI l pc.1, plI l pc.1 + (pc.2.length : Int)) (qc.1, plI l qc.1, plI l qc.1 + (qc.2.length : Int)) with
                | true =>
                  refine iteT ⟨_, rfl, _, rfl, (by show 2 ≤ sizeLine; decide), fun u1 h1 => ⟨(by show 2 ≤ sizeLine; decide), fun u2 h2 => ?_⟩⟩
                  have q1 := same_new (o := .tup [V.str pc.1, V.str qc.1]) h1
                  have q2 := same_new (o := .tup [V.str "over", V.ref u1]) h2
                  exact q _ _ _ (s09.trans (sa.trans (q1.trans q2))) (.tup (SqT.of upd_same) (.cons (.str _) (.cons (.tup (SqT.of (q2 _ _ upd_same)) (.cons (.str _) (.cons (.str _) .nil))) .nil))) (.over l _ _ rfl nb (ov.trans (over_some (find_at nh hs2 hh))))
                | false => exact iteF ⟨_, _, _, _, rfl, (s8.trans s9).trans sa, find_step nh hs2 hh⟩
          · rintro σ H8 ⟨w6, w7, w8, w9, rfl, s8, nh⟩
            rw [ld, List.take_length] at nh
            exact ⟨_, _, _, _, _, _, _, _, rfl, s07.trans s8, ov.trans (over_none nh)⟩
        · rintro σ H5 ⟨w2, w3, w4, w5, w6, w7, w8, w9, rfl, s5, ov⟩
          have lsp : (spotsOf l pcs).length = pcs.length := List.length_map _
          rw [lx, ← lsp, List.drop_length] at ov
          have ov : overOf (spotsOf l pcs) = none := ov
          have hL5 := s5 _ _ hL
          refine ⟨_, rfl, L, rfl, ⟨_, SqL.of hL5⟩, fun Dd hDd => ?_⟩
          have kd : ∀ {H' : Hp}, (∀ b o, b ≠ Dd → H5 b = some o → H' b = some o) → Same H5 H' := fun kp b o e => kp b o (ne_of_none e hDd) e
          refine lc_it (walk_list (xs := xs)) (fun i H' => (∀ b o, b ≠ Dd → H5 b = some o → H' b = some o) ∧ ∃ ps : List Addr, H' Dd = some (.lst (ps.map V.ref)) ∧ ps.length = i ∧ Paired (PairD K H') ps (wkv l (pcs.take i)))
            ⟨fun c o hc e => by rw [upd_ne hc]; exact e, [], upd_same, rfl, .nil⟩ (fun i H' _ ⟨kp, _⟩ => SqL.of (kp _ _ (ne_of_none hL5 hDd) hL5)) ?_ ?_
          · rintro i y H' H6 hi ⟨kp, ps, hD', hlp, hps⟩ ⟨rfl, hy⟩
            obtain ⟨pc, hpc, hp⟩ := eachs_get hxs hy
            have s06 := s5.trans (kd kp)
            obtain ⟨t, b, ws, rfl, ht, hb, hws⟩ := pieceT_s (TupS.of s06) hp
            have g := DGet.k (k := .inr pc.1) (s06 _ _ hD)
            rw [hval _ (List.mem_of_getElem? hpc)] at g
            refine ⟨t, _, rfl, SqT.of ht, rfl, _, _, rfl, _, _, rfl, _, _, rfl, rfl, rfl, yes_go (iteT ?_)⟩
            refine ⟨_, rfl, (by show 2 ≤ sizeLine; decide), fun u1 h1 => ?_⟩
            have q1 := same_new (o := .tup [V.str "piece", V.str pc.1]) h1
            have g1 : upd H6 u1 (.tup [V.str "piece", V.str pc.1]) u1 = some (.tup [V.str "piece", V.str pc.1]) := upd_same
            have g' := DGet.k (k := .inr pc.1) (q1 _ _ (s06 _ _ hD))
            rw [hval _ (List.mem_of_getElem? hpc)] at g'
            generalize upd H6 u1 (.tup [V.str "piece", V.str pc.1]) = H7 at q1 g1 g' ⊢
            refine ⟨_, rfl, _, rfl, D, _, rfl, g', (by show 2 ≤ sizeLine; decide), fun u2 h2 => ?_⟩
            have q2 := same_new (o := .tup [V.ref u1, V.int (plI l pc.1)]) h2
            have g2 : upd H7 u2 (.tup [V.ref u1, V.int (plI l pc.1)]) u2 = some (.tup [V.ref u1, V.int (plI l pc.1)]) := upd_same
            generalize upd H7 u2 (.tup [V.ref u1, V.int (plI l pc.1)]) = H8 at q2 g2 ⊢
            have q12 := q1.trans q2
            have hD8 := q12 _ _ hD'
            have tsf : TupS H8 (upd H8 Dd (.lst (ps.map V.ref ++ [.ref u2]))) := TupS.put hD8 (by intro xs z; cases z)
            have tqf : ∀ c xs, SqT K H6 c xs → SqT K (upd H8 Dd (.lst (ps.map V.ref ++ [.ref u2]))) c xs := fun c xs h => by
              refine sqT_put' (D := Dd) ?_ (sqT_same q12 h)
              exact ⟨_, hD8⟩
            refine ⟨ps.map V.ref, hD8, small1000 (by rw [List.length_map]; omega), fun c o hc e => by rw [upd_ne hc]; exact q12 _ _ (kp c o hc e), ps ++ [u2], ?_, by simp [hlp], ?_⟩
            · rw [upd_same, List.map_append]
              rfl
            · have e : wkv l (pcs.take (i + 1)) = wkv l (pcs.take i) ++ [(([.inr sPiece, .inr pc.1] : List Key), V.int (plI l pc.1))] := by
                unfold wkv
                rw [List.take_add_one, hpc, List.map_append]
                rfl
              rw [e]
              exact paired_snoc ⟨u1, SqT.of (tsf _ _ g2), tsf _ _ (q2 _ _ g1)⟩ (paired_imp (fun _ _ => pairD_s tqf ((TupS.of q12).trans tsf)) hps)
          · rintro H6 ⟨kp, ps, hD', hlp, hps⟩
            rw [lx, List.take_length] at hps
            have s06 := s5.trans (kd kp)
            refine ⟨Dd, ps, wkv l pcs, rfl, SqL.of hD', hps, wkv_nod ok, fun WD hWD => ?_⟩
            have s67 := same_new (o := .dT (wkv l pcs)) hWD
            have hW7 : upd H6 WD (.dT (wkv l pcs)) WD = some (.dT (wkv l pcs)) := upd_same
            generalize upd H6 WD (.dT (wkv l pcs)) = H7 at s67 hW7 ⊢
            refine ⟨(by show 0 ≤ sizeLine; decide), fun PL hPL => ?_⟩
            have s78 := same_new (o := .lst []) hPL
            have hP8 : upd H7 PL (.lst []) PL = some (.lst []) := upd_same
            generalize upd H7 PL (.lst []) = H8 at s78 hP8 ⊢
            have s08 := (s06.trans s67).trans s78
            have hW8 := s78 _ _ hW7
            have WP : WD ≠ PL := ne_of hW8 hP8 (by intro z; cases z)
            have hL8 := s08 _ _ hL
            have hD8 := s08 _ _ hD
            have LP : L ≠ PL := ne_of_none hL (none_of (s06.trans s67) hPL)
            have DP : D ≠ PL := ne_of_none hD (none_of (s06.trans s67) hPL)
            refine ⟨_, rfl, L, rfl, ⟨_, SqL.of hL8⟩, ?_⟩
            refine for_it (walk_list (xs := xs)) (fun i σ H' => ∃ (w2 w3 w4 w5 w6 w7 w8 w9 : Option V) (vs : List V), σ = [some (.ref L), some (.ref D), w2, w3, w4, w5, w6, w7, w8, w9, some (.ref WD), some (.ref PL), none, none] ∧ (∀ b o, b ≠ PL → H8 b = some o → H' b = some o) ∧ H' PL = some (.lst vs) ∧ PySem.W.EachIs (PrT H') vs ((pcs.take i).flatMap (cells l)))
              ⟨_, _, _, _, _, _, _, _, [], rfl, fun _ _ _ e => e, hP8, .nil⟩ (fun i σ H' _ ⟨_, _, _, _, _, _, _, _, _, _, kp', _⟩ => SqL.of (kp' _ _ LP hL8)) ?_ ?_
            · rintro i y σ H' H9 hi ⟨w2, w3, w4, w5, w6, w7, w8, w9, vs, rfl, kp', hP', hvs⟩ ⟨rfl, hy⟩
              obtain ⟨pc, hpc, hp⟩ := eachs_get hxs hy
              have hmem := List.mem_of_getElem? hpc
              have pok := ok.each pc hmem
              have pfew := pok.few
              have t89 : TupS H8 H9 := fun c xs e => kp' _ _ (ne_of e hP8 (by intro z; cases z)) e
              obtain ⟨t, b, ws, rfl, ht, hb, hws⟩ := pieceT_s ((TupS.of s08).trans t89) hp
              have lw : ws.length = pc.2.length := hws.length
              have hD9 := kp' _ _ DP hD8
              have hW9 := kp' _ _ WP hW8
              refine ⟨t, _, rfl, SqT.of ht, rfl, _, _, rfl, _, _, rfl, _, _, rfl, rfl, ?_⟩
              refine ⟨_, rfl, .inl ⟨rfl, _, SqL.of hP'⟩, _, rfl, b, ws, rfl, SqT.of hb, fun De hDe => ?_⟩
              have ke : ∀ {Hz : Hp}, (∀ b o, b ≠ De → H9 b = some o → Hz b = some o) → Same H9 Hz := fun kp b o e => kp b o (ne_of_none e hDe) e
              refine lc_it walk_enumT (fun j Hj => (∀ b o, b ≠ De → H9 b = some o → Hj b = some o) ∧ ∃ us, Hj De = some (.lst us) ∧ us.length = j ∧ PySem.W.EachIs (PrT Hj) us ((cells l pc).take j))
                ⟨fun c o hc e => by rw [upd_ne hc]; exact e, [], upd_same, rfl, .nil⟩ (fun j Hj _ ⟨kpj, _⟩ => SqT.of (kpj _ _ (ne_of_none hb hDe) hb)) ?_ ?_
              · rintro j z Hj Hj' hj ⟨kpj, us, hDj, hlu, hus⟩ ⟨TT, z1, z2, rfl, hT, rfl, hz1, hz2⟩
                cases hz1
                have hz2 : ws[j]? = some z2 := hz2
                obtain ⟨wd, hwd, hsum⟩ := eachs_get hws hz2
                have j2 : j < pc.2.length := (List.getElem?_eq_some_iff.mp hwd).1
                have wok := pok.wd wd (List.mem_of_getElem? hwd)
                have sT := same_new (o := .tup [V.int (j : Nat), z2]) hT
                have hT5 : upd Hj TT (.tup [V.int (j : Nat), z2]) TT = some (.tup [V.int (j : Nat), z2]) := upd_same
                generalize upd Hj TT (.tup [V.int (j : Nat), z2]) = Hk at sT hT5 ⊢
                have s9k := (ke kpj).trans sT
                have g := DGet.k (k := .inr pc.1) (s9k _ _ hD9)
                rw [hval _ hmem] at g
                have pl := placed_of ok nb hsz hmem (List.mem_of_getElem? hwd)
                refine ⟨TT, _, rfl, SqT.of hT5, rfl, _, _, rfl, _, _, rfl, rfl, rfl, yes_go (iteT ?_)⟩
                refine ⟨_, rfl, _, rfl, D, _, rfl, g, _, rfl, _, _, rfl, rfl, _, rfl, _, rfl, z2, wd.1, wd.2, WD, wkv l pcs, plU (plD l), rfl, sumT_s (TupS.of s9k) hsum, s9k _ _ hW9, fun x hx => ?_, wok.few, fun Hm sm => ?_⟩
                · obtain ⟨zz, ii, e1, e2, e3, e4⟩ := pl x hx
                  obtain ⟨z3, hz3, e5⟩ := ok.own pc hmem wd (List.mem_of_getElem? hwd) x.1 (List.mem_map.mpr ⟨x, hx, rfl⟩)
                  obtain ⟨q3, hq3, rfl⟩ := List.mem_map.mp hz3
                  have hv3 := hval q3 hq3
                  rw [e5]
                  have e6 : plU (plD l) [.inr sPiece, .inr q3.1] = plI l q3.1 := plU_at rfl hv3
                  rw [e6]
                  refine ⟨worths_val ok hq3, ?_, e4⟩
                  exact hsz _ (lookup_mem (okP_pl (bad_none nb q3 hq3))) _ rfl
                · refine ⟨(by show 2 ≤ sizeLine; decide), fun c6 hc6 => ?_⟩
                  have s6 := same_new (o := .tup [V.int (plI l pc.1 + ((j : Nat) : Int)), V.int (wd.1 + lin (plU (plD l)) wd.2)]) hc6
                  have hcc : upd Hm c6 (.tup [V.int (plI l pc.1 + ((j : Nat) : Int)), V.int (wd.1 + lin (plU (plD l)) wd.2)]) c6 = some (.tup [V.int (plI l pc.1 + ((j : Nat) : Int)), V.int (wd.1 + lin (plU (plD l)) wd.2)]) := upd_same
                  generalize upd Hm c6 (.tup [V.int (plI l pc.1 + ((j : Nat) : Int)), V.int (wd.1 + lin (plU (plD l)) wd.2)]) = Hn at s6 hcc ⊢
                  have sjn := sT.trans (sm.trans s6)
                  have hDn := sjn _ _ hDj
                  have tsf : TupS Hn (upd Hn De (.lst (us ++ [.ref c6]))) := TupS.put hDn (by intro xs z; cases z)
                  refine ⟨us, hDn, small1000 (by omega), fun c o hc e => by rw [upd_ne hc]; exact sjn _ _ (kpj c o hc e), us ++ [.ref c6], upd_same, by simp [hlu], ?_⟩
                  rw [List.take_add_one, cells_at hwd]
                  exact eachs_snoc (R := PrT _) (show PrT _ (.ref c6) (plI l pc.1 + ((j : Nat) : Int), wv l wd) from ⟨c6, rfl, tsf _ _ hcc⟩) (eachs_imp (fun _ _ => prT_s ((TupS.of sjn).trans tsf)) hus)
              · rintro Hj ⟨kpj, us, hDj, hlu, hus⟩
                have lc : (cells l pc).length = ws.length := by rw [cells_len, lw]
                rw [List.take_of_length_le (Nat.le_of_eq lc)] at hus
                have s9j := ke kpj
                have hPj := s9j _ _ hP'
                have lvs := hvs.length
                have cl := flat_le (l := l) 10 (pcs.take i) fun q hq => (ok.each q (List.mem_of_mem_take hq)).few
                rw [List.length_take] at cl
                have : min i pcs.length ≤ 10 := by omega
                have : 10 * min i pcs.length ≤ 100 := by omega
                have tsf : TupS Hj (upd Hj PL (.lst (vs ++ us))) := TupS.put hPj (by intro xs z; cases z)
                refine ⟨PL, De, vs, us, rfl, rfl, hPj, hDj, Nat.le_of_lt (small1000 (by omega)), ?_⟩
                refine ⟨_, _, _, _, _, _, _, _, vs ++ us, rfl, fun b o hb e => by rw [upd_ne hb]; exact s9j _ _ (kp' b o hb e), upd_same, ?_⟩
                have e : (pcs.take (i + 1)).flatMap (cells l) = (pcs.take i).flatMap (cells l) ++ cells l pc := by
                  rw [List.take_add_one, hpc, List.flatMap_append]
                  simp
                rw [e]
                exact eachs_app (eachs_imp (fun _ _ => prT_s ((TupS.of s9j).trans tsf)) hvs) (eachs_imp (fun _ _ => prT_s tsf) hus)
            · rintro σ H' ⟨w2, w3, w4, w5, w6, w7, w8, w9, vs, rfl, kp', hP', hvs⟩
              rw [lx, List.take_length] at hvs
              have s0' : Same H H' := fun b o e => kp' _ _ (ne_of_none e (none_of (s06.trans s67) hPL)) (s08 _ _ e)
              have ekp := each_kPr hvs
              refine ⟨_, rfl, PL, vs, kPr H', rfl, SqL.of hP', fun x hx => ?_, fun ys pr srtd stb hpr => ⟨(by show 2 ≤ sizeLine; decide), fun u1 h1 => ?_⟩⟩
              · obtain ⟨c, _, t, rfl, ht⟩ := each_mem hvs x hx
                refine ⟨t, rfl, ?_⟩
                rw [kPr_at ⟨t, rfl, ht⟩]
                exact ht
              · have q1 := same_new (o := .lst ys) hpr
                have q2 := same_new (o := .tup [V.str "told", V.ref pr]) h1
                have hys : PySem.W.EachIs (PrT H') ys (ys.map (kPr H')) := each_of fun v hv => by
                  obtain ⟨c, _, hc⟩ := each_mem hvs v (stb.perm.mem_iff.mp hv)
                  exact ⟨c, hc⟩
                refine q _ _ _ (s0'.trans (q1.trans q2)) (.tup (SqT.of upd_same) (.cons (.str _) (.cons (.lst (SqL.of (q2 _ _ upd_same)) (each_dp (eachs_imp (fun _ _ => prT_s (TupS.of (q1.trans q2))) hys))) .nil))) (.told l (ys.map (kPr H')) rfl nb ov ?_ ?_)
                · rw [ekp]
                  exact stb.perm.map _
                · exact List.pairwise_map.mpr srtd
end
end DR

namespace DR
open PySem PySem.Spec PyProof.Rows L2
/-! ### try with several clauses that name the error -/
abbrev Suite := Addr → Value → Option Addr → TS
def wAll (K : PySem.W.Frag) (out : WX) (D : Ends) : List (Value × Nat × Suite) → WX
  | [] => out
  | (c, i, ts) :: more => fun cls d σ H => ∃ yes, PySem.W.exmOne K cls c = some yes ∧
      (yes = true → ∀ e, H e = none → ts e cls d ⟨fun σ1 H1 => D.nx (σ1.set i none) H1, D.rt, fun σ1 H1 => D.bk (σ1.set i none) H1, fun σ1 H1 => D.ct (σ1.set i none) H1⟩ (σ.set i (some (.ref e))) H) ∧ (yes = false → wAll K out D more cls d σ H)
inductive Clauses (X : Cx) : List ExceptHandler → List (Value × Nat × Suite) → Prop
  | none : Clauses X [] []
  | more {x nm : Str} {c : Value} {i : Nat} {ts : Suite} {st : Stmt} {sts : List Stmt} {q1 q2 : Pos} {hds : List ExceptHandler} {l : List (Value × Nat × Suite)} (hi : X.N[i]? = some nm) (hl : X.env.kindOf nm = some .local) (hc : Names X x c)
      (hs : ∀ (e : Addr) (oe : Obj) (cls : Value) (d : Option Addr) (pn : List (Addr × Obj)), Zc cls d oe → (∃ fs, oe.data = .fields fs) → PSs (X.suite e ((e, oe) :: pn)) (st :: sts) (ts e cls d)) (rest : Clauses X hds l) :
      Clauses X (.ExceptHandler (some (.Name x q1)) (some nm) (st :: sts) q2 :: hds) ((c, i, ts) :: l)
theorem ps_tryN {X : Cx} {body : List Stmt} {h0 : ExceptHandler} {hds : List ExceptHandler} {l : List (Value × Nat × Suite)} {pos : Pos} {tb : WX → TS} {out : WX} (e1 : X.stack = X.env :: X.outer) (e2 : X.env.frame = some X.env.locals) (nd : X.N.Nodup) (tk : Takes X out)
    (hb : ∀ (W : WX) (pn : List (Addr × Obj)) (xe : Value → Shared → Prop), Takes (X.tr pn xe) W → PassesOwn (model X.prog X.w) X.A X.env xe → PSs (X.tr pn xe) body (tb W))
    (hh : Clauses X (h0 :: hds) l) : PS X (.Try body (h0 :: hds) [] [] pos) (fun D σ H => tb (wAll X.K out D l) D σ H) := by
  constructor
  intro pins s σ H D I h
  have okX := I.ok
  have fr : X.A.frames = some (X.env :: X.outer) := okX.frames.trans (by rw [e1])
  refine wpAny_Try_except (wpAny_mono ((hb (wAll X.K out D l) (X.pn ++ pins) (fun ev s₁ => wpAny (model X.prog X.w) X.A (noteFrame ev X.env) (fun _ s₂ => wpAny (model X.prog X.w) X.A (setFlight ev none) (fun _ s₃ =>
      wpAny (model X.prog X.w) X.A (handleBy ev X.env (h0 :: hds)) (SP X pins D) X.xe s₃) X.xe s₂) X.xe s₁) ?caught PassesOwn.looking).run [] s σ H D (I.toTry _) h) ?through fun _ _ z => z)
  case through =>
    intro fl s1 hsp
    cases fl with
    | next => exact let ⟨σ1, H1, J, q⟩ := hsp; wpAny_execs_nil ⟨σ1, H1, J.ofTry okX, q⟩
    | brk => exact let ⟨σ1, H1, J, q⟩ := hsp; ⟨σ1, H1, J.ofTry okX, q⟩
    | cont => exact let ⟨σ1, H1, J, q⟩ := hsp; ⟨σ1, H1, J.ofTry okX, q⟩
    | ret u => exact let ⟨v, σ1, H1, J, r, q⟩ := hsp; ⟨v, σ1, H1, J.ofTry okX, r, q⟩
  case caught =>
    intro u s1 flying
    obtain ⟨a, B, sI, pins1, σ1, H1, cls, d, rfl, J0, nb, up, sky, na, os, ag, wish⟩ := flying
    have J : Inv X pins σ1 H1 sI := J0.ofTry okX
    refine Sky.land (A := X.A) (env := X.env) (outer := X.outer) (L := X.env.locals) Zc.steady fr e2 (by rw [← e1]; exact sky) fun h3 fl3 up3 => ?_
    have J3 : Inv X pins σ1 H1 { s1 with heap := h3 } := J.landed nb fl3.1 (up.trans up3) os ag
    obtain ⟨o3, w3, g3, z3, d3⟩ := fl3.there
    have out_of : a ∉ frs (X.env :: X.outer) := fun hm => by
      obtain ⟨_, ob, g, notf⟩ := fl3.2.2.1.mem hm
      have same : o3 = ob := Option.some.inj (g3.symm.trans g)
      rw [same] at d3
      exact notf _ d3
    have nL : a ≠ X.env.locals := fun z => out_of (List.mem_filterMap.mpr ⟨X.env, .head _, e2.trans (by rw [z])⟩)
    have nF : a ∉ X.fs := fun hm => let ⟨e, he, q⟩ := List.mem_filterMap.mp hm; out_of (List.mem_filterMap.mpr ⟨e, .tail _ he, q⟩)
    have S3 := J3.suite g3 d3 na nL nF
    have each : ∀ {hs' : List ExceptHandler} {l' : List (Value × Nat × Suite)}, Clauses X hs' l' → wAll X.K out D l' cls d σ1 H1 → wpAny (model X.prog X.w) X.A (handleBy (.ref a) X.env hs') (SP X pins D) X.xe { s1 with heap := h3 } := by
      intro hs' l' C
      induction C with
      | none =>
        intro wo
        obtain ⟨k1, k2, k3, oe, vs, TB, oT, ts', he, hz, hd, ht, hr⟩ := id fl3
        have thrown : wpAny (model X.prog X.w) X.A (setFlight (.ref a) X.env.frame) (fun _ s4 => wpAny (model X.prog X.w) X.A (throw (.ref a) : Sem Flow) (SP X pins D) X.xe s4) X.xe { s1 with heap := h3 } := by
          rw [e2]
          refine HandSPX.setFlight_upZ fl3 fun h4 held up4 => wpAny_throw (tk _ _ ⟨a, B, sI, pins, σ1, H1, cls, d, rfl, J, nb, (up.trans up3).trans up4, .inr (.inr ?_), na, os, ag, wo⟩)
          rw [e1]
          exact held
        refine wpAny_handleBy_nil ?_
        unfold PySem.passOn
        refine wpAny_bind (wpAny_field he hd ht ?_)
        rw [if_neg (by simp : ¬ ((Value.ref TB == Value.none) = true))]
        first | exact wpAny_bind (wpAny_pure (wpAny_bind thrown)) | exact wpAny_bind thrown
      | @more x nm c i ts st sts q1 q2 hds2 l2 hi hl hc hs rest ih =>
        intro wo
        obtain ⟨yes, hy, on, off⟩ := wo
        have LM := PySem.W.exm_one (M := model X.prog X.w) J3.kIn (fun A Q E s k q => wpAny_typeOf_ref (k _ _ g3) (by rw [z3.1]; exact q)) hy
        have named : ∀ {Q : Value → Shared → Prop} {E : Value → Shared → Prop}, Q c { s1 with heap := h3 } → wpAny (model X.prog X.w) (X.A.mark (some (.ref a))) (eval (.Name x q1) X.env) Q E { s1 with heap := h3 } := fun {Q E} q => by
          obtain ⟨gl, dbg, m1 | ⟨m1, m2, m3⟩⟩ := hc
          · exact ld_glob (X := X.suite a ((a, o3) :: (X.pn ++ pins))) S3 gl m1 q dbg
          · exact ld_blt (X := X.suite a ((a, o3) :: (X.pn ++ pins))) S3 gl m1 m2 q m3 dbg
        refine wpAny_handleBy_cons (codeAny_handlers_test (named (LM.here ?_))) (by intro q; cases q)
        cases yes with
        | false => exact ih (off rfl)
        | true =>
          refine codeAny_handlers_suite_as (HandSPX.lands_againZ fl3 fun h4 fl4 up4 => ?_)
          obtain ⟨o4, w4, g4, z4, d4⟩ := fl4.there
          have J4 : Inv X pins σ1 H1 { s1 with heap := h4 } := J.landed nb fl4.1 ((up.trans up3).trans up4) os ag
          refine store_ok (X := X.suite a ((a, o4) :: (X.pn ++ pins))) (v := .ref a) (J4.suite g4 d4 na nL nF) nd hi (.inl hl) rfl (fun s5 S5 => ?_) (.inr hl)
          refine wpAny_mono ((hs a o4 cls d (X.pn ++ pins) z4 ⟨_, d4⟩).run [] s5 _ H1 _ S5 (on rfl a na)) (fun fl s6 hsp => ?_) fun _ _ z => z.elim
          have gone : ∀ {σ6 : L2.St} {H6 : Hp} {Q : Shared → Prop}, Inv (X.suite a ((a, o4) :: (X.pn ++ pins))) [] σ6 H6 s6 → (∀ s7, Inv X pins (σ6.set i Option.none) H6 s7 → Q s7) →
              wpAny (model X.prog X.w) X.A (do bindName X.env nm .none; unbindBehindTheSuite X.env nm q2) (fun _ s7 => Q s7) X.xe s6 := fun S6 k => gone_ok (S6.unsuite okX) nd hi hl k
          cases fl with
          | next => exact let ⟨_, _, S6, q6⟩ := hsp; gone S6 fun s7 J7 => ⟨_, _, J7, q6⟩
          | brk => exact let ⟨_, _, S6, q6⟩ := hsp; gone S6 fun s7 J7 => ⟨_, _, J7, q6⟩
          | cont => exact let ⟨_, _, S6, q6⟩ := hsp; gone S6 fun s7 J7 => ⟨_, _, J7, q6⟩
          | ret u => exact let ⟨_, _, _, S6, r6, q6⟩ := hsp; gone S6 fun s7 J7 => ⟨_, _, _, J7, r6, q6⟩
    exact each hh wish
end DR

namespace DR
open PySem PySem.Spec PyProof.Rows L2
/-! ### _law_met -/
abbrev sMet : Stmt := topS 45
theorem scMet : FnScope ["ask", "e"] ["ask"] (defScope sMet) := ⟨rfl, rfl, rfl, by decide +kernel, rfl, by decide +kernel, by decide +kernel⟩
/-- what the errors come to -/
def MetE (CN CO : Addr) (Q : VK) : XK := fun cls d H => (∃ (dd : Addr) (v : V), cls = .ref CN ∧ d = some dd ∧ H dd = some (.xd [("p", v)]) ∧ ∀ p, H p = none → Q (.ref p) (upd H p (.tup [.str "place", v]))) ∨
  (∃ (dd : Addr) (v u : V), cls = .ref CO ∧ d = some dd ∧ H dd = some (.xd [("q", u), ("p", v)]) ∧ ∀ p1 p2, H p1 = none → upd H p1 (.tup [v, u]) p2 = none → Q (.ref p2) (upd (upd H p1 (.tup [v, u])) p2 (.tup [.str "over", .ref p1])))
def TMet (CN CO : Addr) : (XK → Hp → VK → Prop) → Hp → VK → Prop := fun tl H Q => tl (MetE CN CO Q) H fun v H1 => 2 ≤ sizeLine ∧ ∀ p, H1 p = none → Q (.ref p) (upd H1 p (.tup [.str "told", v]))
theorem takes_len {X : Cx} {W W' : WX} (tk : Takes X W) (h : ∀ cls d σ H, σ.length = X.N.length → W' cls d σ H → W cls d σ H) : Takes X W' := fun u s' x => by
  obtain ⟨a, B, sI, pins, σ, H, cls, d, e, I, r1, r2, r3, r4, r5, r6, w⟩ := x
  exact tk u s' ⟨a, B, sI, pins, σ, H, cls, d, e, I, r1, r2, r3, r4, r5, r6, h cls d σ H I.len w⟩
theorem set_one {σ : L2.St} {v : V} (h : σ.length = 2) : (σ.set 1 (some v))[1]? = some (some v) := by
  rw [List.getElem?_set_self (by omega)]
structure ErrM (K : PySem.W.Frag) (mg : Str → Option Value) (CN CO : Addr) : Prop where
  mN : mg "NoPlace" = some (.ref CN)
  mO : mg "Over" = some (.ref CO)
  tN : PySem.W.exmOne K (.ref CN) (.ref CN) = some true
  tO : PySem.W.exmOne K (.ref CO) (.ref CO) = some true
  xN : XfC K CN
  xO : XfC K CO
  nN : PySem.W.findIn K (.ref CN) "p" = some none
  nO : PySem.W.findIn K (.ref CO) "p" = some none
  nO2 : PySem.W.findIn K (.ref CO) "q" = some none
  oON : PySem.W.exmOne K (.ref CO) (.ref CN) = some false
theorem met_gives {X : Cx} {g CN CO : Addr} {cdg : Value} {q : Str} (M : ErrM X.K X.mg CN CO) :
    LamX.GivesTo X ["ask", "e"] "_law_met" (defScope sMet) g cdg (defBody sMet) "ask" q (TMet CN CO) := by
  intro f c' s H Q tl act hc h
  refine ⟨_, pss_one (ps_tryN (X := (cxOf CX0 X.prog X.w X.K X.mg X.base ["ask", "e"] "_law_met" (defScope sMet) g cdg X.A X.stack s H E0).nox) (out := fun _ _ _ _ => False)
      (tb := fun W D σ H => ∃ Ech : XK, (∀ cls d σ' H', σ'.length = 2 → Ech cls d H' → W cls d σ' H') ∧ σ[0]? = some (some (.ref f)) ∧ H c' = some (LamX.CodeO c' q) ∧ tl Ech H fun v H1 => 2 ≤ sizeLine ∧ ∀ p, H1 p = none → D.rt (.ref p) (upd H1 p (.tup [.str "told", v])))
      rfl rfl scMet.nd LamX.takes0 (fun W pn xe tk _ => ?_)
      (.more (i := 1) (c := .ref CN) rfl rfl ⟨rfl, by decide, .inl M.mN⟩ (fun e oe cls d pn hz hf => pss_one (ps_ret (pe_tup (pa_cons pe_str (pa_cons (by exact pe_xf M.xN M.nN hz hf (pv 1)) pa_nil)))))
        (.more (i := 1) (c := .ref CO) rfl rfl ⟨rfl, by decide, .inl M.mO⟩ (fun e oe cls d pn hz hf => pss_one (ps_ret (pe_tup (pa_cons pe_str (pa_cons (pe_tup (pa_cons (by exact pe_xf M.xO M.nO hz hf (pv 1)) (pa_cons (by exact pe_xf M.xO M.nO2 hz hf (pv 1)) pa_nil))) pa_nil))))) .none))), ?_⟩
  · refine ⟨fun pins s' σ H' D I h' => ?_⟩
    obtain ⟨Ech, hW, h1, h2, h3⟩ := h'
    exact (pss_one (ps_ret (pe_tup (pa_cons pe_str (pa_cons (act (fun cls d _ H => Ech cls d H) pn xe Ech _ _ (takes_len tk fun cls d σ H hl h => hW cls d σ H hl h) (fun _ _ _ _ h => h)) pa_nil))))).run pins s' σ H' D I ⟨h1, h2, h3⟩
  · refine ⟨MetE CN CO Q, fun cls d σ' H' hl hm => ?_, rfl, hc, h⟩
    rcases hm with hm | hm
    · obtain ⟨dd, v, rfl, rfl, hd, k⟩ := hm
      refine ⟨true, M.tN, fun _ e he => ?_, fun z => Bool.noConfusion z⟩
      exact ⟨_, set_one hl, rfl, rfl, dd, _, v, rfl, hd, by simp [List.lookup], (by show 2 ≤ sizeLine; decide), k⟩
    · obtain ⟨dd, v, u, rfl, rfl, hd, k⟩ := hm
      refine ⟨false, M.oON, fun z => Bool.noConfusion z, fun _ => ⟨true, M.tO, fun _ e he => ?_, fun z => Bool.noConfusion z⟩⟩
      exact ⟨_, set_one hl, rfl, rfl, dd, _, v, rfl, hd, rfl, _, set_one hl, rfl, rfl, dd, _, u, rfl, hd, rfl, (by show 2 ≤ sizeLine; decide), fun p1 h1 => ⟨(by show 2 ≤ sizeLine; decide), fun p2 h2 => k p1 p2 h1 h2⟩⟩
/-- what is known of _law_met and the errors -/
structure Met (K : PySem.W.Frag) (mg : Str → Option Value) (CN CO : Addr) : Prop where
  ex : ∃ (g : Addr) (fd : FuncData), mg "_law_met" = some (.ref g) ∧ Fun K "_law_met" "_law_met" sMet g fd
  er : ErrM K mg CN CO
theorem pe_met {X : Cx} {T : List (Addr × Str)} {CN CO c P : Addr} {k : Nat} {params : Arguments} {body : Expr} {scope : Scope} {t : XK → TE} {p lpos pos : Pos} (M : Met X.K X.mg CN CO) (hg : Gl X "_law_met")
    (TB : LamX.TabB X.base X.mg c P) (hcode : X.env.code = .ref c) (hmT : (P, X.env.qual ++ "<lambda>") ∈ T) (hu : ∀ p ∈ T, p.1 = P → p.2 = X.env.qual ++ "<lambda>") (hr : Room (k + 2) X.A) (L : LamX.LamS X.env.scope scope) (hdef : defaultsOf params X.env = ([], []))
    (hbind : ∀ (q : Str) (cl : List (Str × Addr)) (pm cv ctv : Value), bindArgs (PySem.W.kla_fn "<lambda>" q params body scope cl pm cv ctv) ⟨[], []⟩ = pure [])
    (hbody : ∀ (A : Around) (outer : List Env) (s : Shared) (H : Hp) (E : XK) (f c' : Addr), Room k (A.deeper (LamX.lamEnv X scope s.heap.objs.size f c')) → PE (LamX.lamCx X A outer s H E scope f c') body (t E)) :
    PE X (.Call (.Name "_law_met" p) [.Lambda params body scope lpos] [] pos) (LamX.tLam T (TMet CN CO) t) := by
  obtain ⟨g, fd, hm, F⟩ := M.ex
  have hb := F.binds (ps := ["ask"]) fun _ _ _ _ _ _ us hl => match us, hl with | [_], _ => rfl
  obtain ⟨oc, od, kV, doc, pm, an, cdv, ct, osl, rfl, lk, hcd⟩ := F.ex
  exact LamX.pe_lamcall hg hm F.kp lk hcd hb scMet rfl (.inl rfl) (met_gives M.er) TB hcode hmT hu hr L hdef hbind hbody
end DR

namespace DR
open PySem PySem.Spec PyProof.Rows L2 PyProof.V
/-! ### repr of places -/
def encP : Key → PyData
  | .inl i => .int i
  | .inr x => .str x
def plDat (l : Pl) : List (PyData × PyData) := l.map fun q => (.str q.1, q.2.d)
def plText : PlA → Str
  | .oth d => d.shown
  | .dct l => (PyData.dict (plDat l)).shown
theorem sc_reads {h : Heap} (c : Sc) {v : Value} (r : RelV c.v v) : Reads h v c.d [] := by
  cases c with
  | i n =>
    obtain ⟨t, rfl⟩ := r
    exact .int n t
  | no =>
    obtain rfl : v = Value.none := r
    exact .none
  | tr =>
    obtain rfl : v = Value.bool true := r
    exact .bool true
  | s x =>
    obtain ⟨t, rfl⟩ := r
    exact .str x t
theorem pl_reads {h : Heap} : ∀ {l : Pl} {vs : List (Key × Value)}, KV (plD l) vs → PairsRead h encP vs (plDat l) []
  | [], _, .nil => .nil
  | q :: l, _, .cons (b := b) r t => by
    have e : b = (.inr q.1, b.2) := by
      have : b.1 = .inr q.1 := r.1.symm
      rw [← this]
    rw [e]
    exact .cons (k := .inr q.1) (as := []) (sc_reads q.2 r.2) (pl_reads t)
theorem key_reads {h : Heap} {k : Key} {v : Value} (e : keyIs k v = true) : Reads h v (encP k) [] := by
  rcases keyIs_shape e with ⟨i, t, rfl, rfl⟩ | ⟨x, t, rfl, rfl⟩
  · exact .int i t
  · exact .str x t
/-- keys and worths that are short -/
def allK : List Str := ["start", "b", "a", "main", "tab", "further"]
def ScOk : Sc → Prop
  | .i n => n.natAbs < 10 ^ 12
  | .s x => x = "5"
  | _ => True
def PlOk (a : PlA) : Prop := match a with
  | .oth d => d = .none ∨ d = .int 5 ∨ d = .list [] ∨ d = .str "ab"
  | .dct l => l.length ≤ 10 ∧ ∀ q ∈ l, q.1 ∈ allK ∧ ScOk q.2
theorem len_nat {n k : Nat} (hk : 0 < k) (h : n < 10 ^ k) : (Str.ofString (toString n)).length ≤ k := by
  have h1 : ((n : Nat) : Int) < 10 ^ k := by exact_mod_cast h
  exact toString_length_le (v := (n : Int)) (Int.natCast_nonneg n) hk h1
theorem len_int {i : Int} (h : i.natAbs < 10 ^ 12) : (PyData.int i).shown.length ≤ 13 := by
  simp only [PyData.shown]
  cases i with
  | ofNat n =>
    have := len_nat (n := n) (k := 12) (by decide) h
    show (Str.ofString (toString n)).length ≤ 13
    omega
  | negSucc n =>
    have := len_nat (n := n + 1) (k := 12) (by decide) h
    show (Str.ofString ("-" ++ toString (n + 1))).length ≤ 13
    rw [PyProof.Rows.ofString_length] at this ⊢
    simp only [String.toList_append, List.length_append] at this ⊢
    have e : ("-" : String).toList.length = 1 := rfl
    omega
theorem key_short : ∀ z ∈ allK, (PyData.str z).leavesShort 13 = true ∧ (PyData.str z).bulk ≤ 10 ∧ z.length ≤ 1000 := by
  intro z hz
  have go : allK.all (fun z => (PyData.str z).leavesShort 13 && decide ((PyData.str z).bulk ≤ 10) && decide (z.length ≤ 1000)) = true := by decide +kernel
  have := List.all_eq_true.mp go z hz
  simpa [Bool.and_eq_true, and_assoc] using this
theorem sc_short {c : Sc} (h : ScOk c) : c.d.leavesShort 13 = true ∧ c.d.bulk ≤ 10 ∧ c.d.showable = true := by
  cases c with
  | i n =>
    have h : n.natAbs < 10 ^ 12 := h
    refine ⟨?_, Nat.zero_le _, ?_⟩
    · show decide _ = true
      exact decide_eq_true (len_int h)
    · show decide (n.natAbs.log2 < 1920) = true
      refine decide_eq_true ?_
      rcases Nat.eq_zero_or_pos n.natAbs with z | z
      · rw [z]
        decide +kernel
      · exact (Nat.log2_lt (by omega)).mpr (Nat.lt_trans h (by decide +kernel))
  | no => exact ⟨rfl, Nat.zero_le _, rfl⟩
  | tr => exact ⟨rfl, Nat.zero_le _, rfl⟩
  | s x =>
    obtain rfl : x = "5" := h
    exact ⟨by decide +kernel, by decide +kernel, rfl⟩
theorem pl_short : ∀ {l : Pl}, (∀ q ∈ l, q.1 ∈ allK ∧ ScOk q.2) → PyData.leavesShortKv 13 (plDat l) = true ∧ PyData.bulkKv (plDat l) ≤ 22 * l.length ∧ PyData.showableKv (plDat l) = true
  | [], _ => ⟨rfl, Nat.zero_le _, rfl⟩
  | q :: l, h => by
    obtain ⟨a, b, c⟩ := pl_short (l := l) fun q hq => h q (List.mem_cons_of_mem _ hq)
    obtain ⟨k, v⟩ := h q (List.mem_cons_self ..)
    obtain ⟨k1, k2, _⟩ := key_short _ k
    obtain ⟨v1, v2, v3⟩ := sc_short v
    refine ⟨?_, ?_, ?_⟩
    · show PyData.leavesShortKv 13 ((.str q.1, q.2.d) :: plDat l) = true
      simp only [PyData.leavesShortKv, Bool.and_eq_true]
      exact ⟨⟨k1, v1⟩, a⟩
    · show PyData.bulkKv ((.str q.1, q.2.d) :: plDat l) ≤ _
      simp only [PyData.bulkKv, List.length_cons]
      omega
    · show PyData.showableKv ((.str q.1, q.2.d) :: plDat l) = true
      simp only [PyData.showableKv, Bool.and_eq_true]
      exact ⟨⟨rfl, v3⟩, c⟩
def rReprP (K : PySem.W.Frag) : List V → Hp → VK → Prop := fun xs H Q => ∃ v a, xs = [v] ∧ PlV K H v a ∧ PlOk a ∧ Q (.str (plText a)) H
theorem call_repr_pl {X : Cx} (hg : X.A.guards = some []) (hu : X.A.units + 65 < cLine) : CallR X (.builtin "repr") (rReprP X.K) := by
  intro pins s σ H xs us Q I r h
  obtain ⟨v, a, rfl, hv, ok, q⟩ := h
  obtain ⟨u, rfl, ru⟩ := vals1 r
  cases a with
  | oth d =>
    obtain ⟨hd, _⟩ := hv
    rcases ok with rfl | rfl | rfl | rfl
    · cases hd
      obtain rfl : u = Value.none := ru
      exact P.repr_of_none ⟨.str _, H, I.tok _, ⟨_, rfl⟩, q⟩
    · cases hd
      obtain ⟨t, rfl⟩ := ru
      exact P.repr_of_int (by decide) ⟨.str _, H, I.tok _, ⟨_, rfl⟩, q⟩
    · obtain ⟨as, rd⟩ := Dp.reads I _ _ _ hd ru
      cases hd with
      | lst s0 _ =>
        cases ru
        exact repr_of_reads' rd rfl (fun e => by cases e) hg (by show X.A.units + (_ + 1) < cLine; simp [PyData.depth, PyData.depthAll]; omega) (fun b o e => e) (fun h' u tk k => ⟨.str _, H, I.kept (t' := tk) k, ⟨u, rfl⟩, q⟩) (by decide +kernel)
    · cases hd
      obtain ⟨t, rfl⟩ := ru
      exact P.repr_of_str ⟨.str _, H, I.tok _, ⟨_, rfl⟩, q⟩ (by decide +kernel)
  | dct l =>
    obtain ⟨D, rfl, hD, _, _⟩ := hv
    obtain ⟨few, each⟩ := ok
    cases ru
    obtain ⟨z, hns, vs, kv, dd⟩ := dk_of I.hok hD
    obtain ⟨s1, s2, s3⟩ := pl_short each
    have rd : Reads s.heap (.ref D) (.dict (plDat l)) [D] := reads_dictOf (enc := encP) (fun k key e => key_reads e) dd (pl_reads kv)
    refine repr_of_reads' rd s3 (fun _ e => ?_) hg ?_ (fun b o e => e) (fun h' u tk k => ⟨.str _, H, I.kept (t' := tk) k, ⟨u, rfl⟩, q⟩) ?_
    · rw [List.mem_singleton.mp e] at hns
      simp at hns
    · have dp : ∀ l : Pl, PyData.depthKv (plDat l) ≤ 0 := fun l => by
        induction l with
        | nil => exact Nat.le_refl _
        | cons q l ih =>
          show PyData.depthKv ((.str q.1, q.2.d) :: plDat l) ≤ 0
          have : q.2.d.depth = 0 := by cases q.2 <;> simp [Sc.d, PyData.depth]
          simp only [PyData.depthKv]
          simp [PyData.depth, this]
          omega
      have := dp l
      simp only [PyData.depth]
      omega
    · refine PyData.shown_fits_bulk (B := 13) (by decide) (by decide) (d := .dict (plDat l)) ?_ ?_
      · show PyData.leavesShortKv 13 (plDat l) = true
        exact s1
      · show PyData.bulkKv (plDat l) ≤ 2 ^ 20
        have : (220 : Nat) ≤ 2 ^ 20 := by decide
        omega
end DR

namespace DR
open PySem PySem.Spec PyProof.Rows L2
/-! ### what is laid is what is told -/
theorem over_pair : ∀ {sps : List Spot}, overOf sps = none → sps.Pairwise fun s t => hit s t = false
  | [], _ => .nil
  | s :: l, h => by
    have h : (match l.find? (hit s) with | some t => some (s, t) | none => overOf l) = none := h
    cases e : l.find? (hit s) with
    | some t => rw [e] at h; cases h
    | none =>
      rw [e] at h
      refine List.pairwise_cons.mpr ⟨fun t ht => ?_, over_pair h⟩
      have := List.find?_eq_none.mp e t ht
      simpa using this
theorem hit_symm (s t : Spot) : hit s t = hit t s := by
  unfold hit
  rw [decide_eq_decide]
  split <;> split <;> split <;> split <;> omega
def sp (l : Pl) (q : Pc) : Spot := (q.1, plI l q.1, plI l q.1 + (q.2.length : Int))
theorem cell_mem {l : Pl} {q : Pc} {c : Int × Int} (h : c ∈ cells l q) : plI l q.1 ≤ c.1 ∧ c.1 < plI l q.1 + (q.2.length : Int) := by
  obtain ⟨j, hj, e⟩ := List.mem_iff_getElem.mp h
  rw [cells_len] at hj
  have e2 := cells_at (l := l) (q := q) (List.getElem?_eq_getElem hj)
  rw [List.getElem?_eq_getElem (by rw [cells_len]; exact hj), e] at e2
  have e3 := Option.some.inj e2
  rw [e3]
  show plI l q.1 ≤ plI l q.1 + ((j : Nat) : Int) ∧ _
  constructor <;> omega
theorem cells_asc (l : Pl) (q : Pc) : (cells l q).Pairwise fun a b => a.1 < b.1 := by
  rw [List.pairwise_iff_getElem]
  intro i j hi hj ij
  have hi' := hi
  have hj' := hj
  rw [cells_len] at hi' hj'
  have ei := cells_at (l := l) (q := q) (List.getElem?_eq_getElem hi')
  have ej := cells_at (l := l) (q := q) (List.getElem?_eq_getElem hj')
  rw [List.getElem?_eq_getElem hi] at ei
  rw [List.getElem?_eq_getElem hj] at ej
  rw [Option.some.inj ei, Option.some.inj ej]
  show plI l q.1 + ((i : Nat) : Int) < plI l q.1 + ((j : Nat) : Int)
  omega
theorem srt_asc {l : Pl} {pcs : List Pc} (h : overOf (spotsOf l pcs) = none) : ((srt l pcs).flatMap (cells l)).Pairwise fun a b => a.1 < b.1 := by
  have h1 : pcs.Pairwise fun a b => hit (sp l a) (sp l b) = false := by
    have := over_pair h
    unfold spotsOf at this
    exact List.pairwise_map.mp this
  have h2 : (srt l pcs).Pairwise fun a b => hit (sp l a) (sp l b) = false :=
    ((List.mergeSort_perm pcs _).pairwise_iff (fun {x y} e => by rw [hit_symm]; exact e)).mpr h1
  have h3 : (srt l pcs).Pairwise fun a b => plI l a.1 ≤ plI l b.1 := by
    have := List.pairwise_mergeSort (le := fun a b : Pc => decide (plI l a.1 ≤ plI l b.1)) (fun a b c x y => by
      have x := of_decide_eq_true x
      have y := of_decide_eq_true y
      exact decide_eq_true (Int.le_trans x y)) (fun a b => by
      rcases Int.le_total (plI l a.1) (plI l b.1) with x | x
      · simp [x]
      · simp [x]) pcs
    exact this.imp fun e => of_decide_eq_true e
  rw [List.pairwise_flatMap]
  refine ⟨fun q _ => cells_asc l q, (h2.and h3).imp fun {a b} ⟨nh, le⟩ x hx y hy => ?_⟩
  obtain ⟨x1, x2⟩ := cell_mem hx
  obtain ⟨y1, y2⟩ := cell_mem hy
  unfold hit sp at nh
  have nh := of_decide_eq_false nh
  simp only at nh
  split at nh <;> split at nh <;> omega
def cellE (c : Int × Int) : Key × V := (.inl c.1, .int c.2)
theorem fold_new : ∀ (cs : List (Int × Int)) (ds : List (Int × Int)), (ds ++ cs).Pairwise (fun a b => a.1 < b.1) → cs.foldl putC (ds.map cellE) = (ds ++ cs).map cellE
  | [], ds, _ => by rw [List.append_nil]; rfl
  | c :: cs, ds, h => by
    have e : ds ++ c :: cs = (ds ++ [c]) ++ cs := by simp
    rw [e] at h ⊢
    rw [← fold_new cs (ds ++ [c]) h]
    show cs.foldl putC (putC (ds.map cellE) c) = _
    have e2 : putC (ds.map cellE) c = (ds ++ [c]).map cellE := by
      unfold putC putK
      rw [if_neg]
      · rw [List.map_append]
        rfl
      · intro z
        obtain ⟨p, hp, ez⟩ := List.any_eq_true.mp z
        obtain ⟨d, hd, rfl⟩ := List.mem_map.mp hp
        have ez : d.1 = c.1 := Sum.inl.inj (of_decide_eq_true ez)
        have := (List.pairwise_append.mp (List.pairwise_append.mp h).1).2.2 d hd c (List.mem_singleton.mpr rfl)
        omega
    rw [e2]
theorem found_eq {l : Pl} {pcs : List Pc} (h : overOf (spotsOf l pcs) = none) : foundD l pcs = ((srt l pcs).flatMap (cells l)).map cellE := by
  have := fold_new ((srt l pcs).flatMap (cells l)) [] (by rw [List.nil_append]; exact srt_asc h)
  exact this
theorem lex_anti {a b : Int × Int} (h1 : leP2 a b) (h2 : leP2 b a) : a = b := by
  obtain ⟨a1, a2⟩ := a
  obtain ⟨b1, b2⟩ := b
  unfold leP2 SrtO.lexB at h1 h2
  simp only at h1 h2
  by_cases c : a1 = b1
  · subst c
    rw [if_pos rfl] at h1 h2
    have h1 := of_decide_eq_false h1
    have h2 := of_decide_eq_false h2
    have : a2 = b2 := by omega
    rw [this]
  · rw [if_neg (Ne.symm c)] at h1
    rw [if_neg c] at h2
    have h1 := of_decide_eq_false h1
    have h2 := of_decide_eq_false h2
    omega
theorem told_eq {l : Pl} {pcs : List Pc} {ds : List (Int × Int)} (h : overOf (spotsOf l pcs) = none) (pm : ds.Perm (pcs.flatMap (cells l))) (pw : ds.Pairwise leP2) : ds = (srt l pcs).flatMap (cells l) := by
  have p2 : ((srt l pcs).flatMap (cells l)).Perm (pcs.flatMap (cells l)) := (List.mergeSort_perm pcs _).flatMap_right _
  have w2 : ((srt l pcs).flatMap (cells l)).Pairwise leP2 := (srt_asc h).imp fun {a b} lt => by
    unfold leP2 SrtO.lexB
    rw [if_neg (by omega)]
    exact decide_eq_false (by omega)
  exact (pm.trans p2.symm).eq_of_pairwise (fun a b _ _ x y => lex_anti x y) pw w2
end DR

namespace DR
open PySem PySem.Spec PyProof.Rows L2
/-! ### the law -/
theorem wo_mono {H H' : Hp} {p : Addr} (e : Same H H') : Same (wo H p) (wo H' p) := fun b x h => by
  by_cases hb : b = p
  · rw [hb] at h
    unfold wo at h
    rw [if_pos rfl] at h
    cases h
  · rw [wo_ne hb] at h ⊢
    exact e b x h
theorem wo_dr {H H' : Hp} {p : Addr} (h : Dr p H H') : Same (wo H p) (wo H' p) := fun b x e => by
  by_cases hb : b = p
  · rw [hb] at e
    unfold wo at e
    rw [if_pos rfl] at e
    cases e
  · rw [wo_ne hb] at e
    rw [wo_ne hb]
    exact h b x hb e
theorem wo_sub {H : Hp} {p : Addr} : Same (wo H p) H := fun b x h => by
  by_cases hb : b = p
  · rw [hb] at h
    unfold wo at h
    rw [if_pos rfl] at h
    cases h
  · rw [wo_ne hb] at h
    exact h
theorem wo_upd {H : Hp} {r : Addr} {o : HO} : wo (upd H r o) r = wo H r := by
  funext b
  by_cases hb : b = r
  · rw [hb]
    unfold wo
    rw [if_pos rfl, if_pos rfl]
  · rw [wo_ne hb, wo_ne hb, upd_ne hb]
theorem wo_none {H : Hp} {r : Addr} (h : H r = none) : Same H (wo H r) := fun b x e => by
  rw [wo_ne (ne_of_none e h)]
  exact e
theorem wo_at {H : Hp} {p b : Addr} {o : HO} (hb : b ≠ p) (h : H b = some o) : wo H p b = some o := by rw [wo_ne hb]; exact h
theorem pool_same {H H' : Hp} {p : Addr} {c : Nat} (e : Same H H') (h : Pool H p c) : Pool H' p c := by
  obtain ⟨a, b, z, h1, r⟩ := h.ex
  exact ⟨a, b, z, e _ _ h1, r⟩
abbrev sLaw : Stmt := topS 47
abbrev NL : List Str := ["script", "turn", "pool", "pieces", "way", "p", "held", "due", "found", "first", "image", "places", "q"]
theorem scLaw : FnScope NL ["script"] (defScope sLaw) := ⟨rfl, rfl, rfl, by decide +kernel, rfl, by decide +kernel, by decide +kernel⟩
abbrev lb (i : Nat) : Stmt := (defBody sLaw).getD i (.Pass ⟨0, 0, 0, 0⟩)
def forBody : Stmt → List Stmt
  | .For _ _ b _ _ => b
  | _ => []
abbrev fb (i : Nat) : Stmt := (forBody (lb 0)).getD i (.Pass ⟨0, 0, 0, 0⟩)
abbrev qLaw : Str := (envOfC "law" (defScope sLaw) 0 0 .none).qual ++ "<lambda>"
/-- what the law calls -/
structure TL (P : Program) (w : World) (K : PySem.W.Frag) (mg : Str → Option Value) (base : Heap) (C CN CO c tw : Addr) (T' : List (Addr × Str)) : Prop where
  bi : Bi mg
  repr : mg "repr" = none
  cell : Has P w K mg base CX0 1 "_law_cell" ["script", "k"] (spCell K)
  pool : Has P w K mg base CX0 1 "_law_pool" ["cell"] spPool
  take : Has P w K mg base CX0 1 "_law_take" ["pool", "many"] spTake
  one : Has P w K mg base CX0 2 "_law_one" ["pool", "things"] (spOne K)
  pieces : Has P w K mg base CX0 4 "_law_pieces" ["pool"] (spLPieces K)
  apart : Has P w K mg base CX0 3 "_law_apart" ["pool", "pieces"] spApart
  due : Has P w K mg base CX0 2 "_law_due" ["pieces", "places"] (spDue K)
  met : Met K mg CN CO
  laid : Has P w K mg base (L2.CX P w) 7 "laid" ["image", "places"] (spLaid K C CN CO T')
  img : mg "Image" = some (.ref C)
  mkx : ∃ (f : Addr) (fd : FuncData), _root_.L2.Mk K C f ∧ Binds K fd ["self", "pieces", "start"] [] ∧ FnOk P w K mg base CX0 7 f fd ["self", "pieces", "start"] (spImg K C)
  tb : LamX.TabB base mg c tw
  hm : (tw, qLaw) ∈ T'
  hu : ∀ p ∈ T', p.1 = tw → p.2 = qLaw
abbrev XL (P : Program) (w : World) (K : PySem.W.Frag) (mg : Str → Option Value) (base : Heap) (f c : Addr) (A : Around) (outer : List Env) (s : Shared) (H : Hp) (E : XK) : Cx := cxOf (L2.CX P w) P w K mg base NL "law" (defScope sLaw) f (.ref c) A outer s H E
theorem pe_makeH {X : Cx} {C : Addr} {k : Nat} {ps : List Str} {sp : Sp} {x : Str} {p pos : Pos} {e : Expr} {es : List Expr} {t : TA} (M : ∃ (f : Addr) (fd : FuncData), _root_.L2.Mk X.K C f ∧ Binds X.K fd ps [] ∧ FnOk X.prog X.w X.K X.mg X.base CX0 k f fd ps sp) (hr : Room (k + 1) X.A) (hg : Gl X x) (hm : X.mg x = some (.ref C)) (ha : PA X (e :: es) t)
    (hdb : (x == ("__debug__" : Str)) = false := by decide) (he : starEach (e :: es) X.env = (false, eval e X.env) :: starEach es X.env := by rfl) (hpl : (backTo pos (starEach es X.env)).any (·.1) = false := by rfl) : PE X (.Call (.Name x p) (e :: es) [] pos) (tMake C sp [] E0 t) := by
  obtain ⟨f, fd, a, b, c⟩ := M
  exact pe_make a c hr hg hm b .nil pass0 ha hdb he hpl
abbrev sg (sc : Addr) (o1 o2 o3 o4 o5 o6 o7 o8 o9 o10 o11 : Option V) : L2.St := [some (.ref sc), o1, o2, o3, o4, o5, o6, o7, o8, o9, o10, o11, none]
/-- all stays but tables and dicts -/
def ExtD (G G' : Hp) : Prop := ∀ b o, G b = some o → (∀ ps, o ≠ .tbl ps) → (∀ kvs, o ≠ .dK kvs) → G' b = some o
theorem ExtD.of {G G' : Hp} (e : Same G G') : ExtD G G' := fun b o h _ _ => e b o h
theorem ExtD.ext {G G' : Hp} (e : LamX.ExtN G G') : ExtD G G' := fun b o h n _ => e b o h n
theorem ExtD.trans {G G' G'' : Hp} (a : ExtD G G') (b : ExtD G' G'') : ExtD G G'' := fun c o h n m => b c o (a c o h n m) n m
theorem ExtD.sqL {K : PySem.W.Frag} {G G' : Hp} (e : ExtD G G') {a : Addr} {xs : List V} (h : SqL K G a xs) : SqL K G' a xs :=
  h.imp (fun h => h.imp (fun h => e _ _ h (by intro x z; cases z) (by intro x z; cases z)) (fun ⟨o, h⟩ => ⟨o, e _ _ h (by intro x z; cases z) (by intro x z; cases z)⟩)) id
theorem ExtD.tup {G G' : Hp} (e : ExtD G G') : TupS G G' := fun c xs h => e _ _ h (by intro x z; cases z) (by intro x z; cases z)
/-- what stands whatever is drawn -/
structure Ls (K : PySem.W.Frag) (sc : Addr) (ns : List Int) (G : Hp) : Prop where
  script : SqL K G sc (ns.map V.int)
structure Fx (K : PySem.W.Frag) (C sc L I : Addr) (ns : List Int) (xs : List V) (pcs : List Pc) (G : Hp) : Prop where
  script : SqL K G sc (ns.map V.int)
  lst : G L = some (.lst xs)
  each : PySem.W.EachIs (PieceT G) xs (q0 :: pcs)
  img : ImgV G C I (q0 :: pcs)
theorem Fx.ext {K : PySem.W.Frag} {C sc L I : Addr} {ns : List Int} {xs : List V} {pcs : List Pc} {G G' : Hp} (h : Fx K C sc L I ns xs pcs G) (e : ExtD G G') : Fx K C sc L I ns xs pcs G' := by
  obtain ⟨h1, h2, h3, ok, dx, p, d, r, ys, h4, h5, h6⟩ := h
  exact ⟨e.sqL h1, e _ _ h2 (by intro x z; cases z) (by intro x z; cases z), eachs_imp (fun _ _ => pieceT_s e.tup) h3, ok, dx, p, d, r, ys, e _ _ h4 (by intro x z; cases z) (by intro x z; cases z), e _ _ h5 (by intro x z; cases z) (by intro x z; cases z), eachs_imp (fun _ _ => pieceT_s e.tup) h6⟩
/-- names and their places -/
structure Nms (pcs : List Pc) : Prop where
  ok : PcsOk (q0 :: pcs)
  few : pcs.length ≤ 4
  nm : ∀ q ∈ pcs, q.1 ∈ nms
theorem nms_all {pcs : List Pc} (h : Nms pcs) : ∀ q ∈ q0 :: pcs, q.1 ∈ allK := fun q hq => by
  rcases List.mem_cons.mp hq with rfl | hq
  · decide +kernel
  · have : ∀ z ∈ nms, z ∈ allK := by decide +kernel
    exact this _ (h.nm q hq)
section
variable {P : Program} {w : World} {K : PySem.W.Frag} {mg : Str → Option Value} {base : Heap} {C CN CO f c tw : Addr} {T' : List (Addr × Str)} {A : Around} {outer : List Env} {s : Shared} {H0 : Hp} {E : XK}
theorem s0 (L : TL P w K mg base C CN CO c tw T') (hr : Room 12 (XL P w K mg base f c A outer s H0 E).A) : ∃ t, PS (XL P w K mg base f c A outer s H0 E) (fb 0) t ∧ ∀ (D : Ends) (H : Hp) (sc : Addr) (ns : List Int) (j : Nat) (o2 o3 o4 o5 o6 o7 o8 o9 o10 o11 : Option V), SqL K H sc (ns.map V.int) → LamX.Tabs T' H →
      (∀ H' p, SqL K (wo H' p) sc (ns.map V.int) → LamX.Tabs T' (wo H' p) → Pool H' p 0 → D.nx (sg sc (some (.int (j : Int))) (some (.ref p)) o3 o4 o5 o6 o7 o8 o9 o10 o11) H') → t D (sg sc (some (.int (j : Int))) o2 o3 o4 o5 o6 o7 o8 o9 o10 o11) H := by
  refine ⟨_, ps_set (i := 2) scLaw.nd rfl (.inl rfl) (pe_callH L.pool (hr.mono (by decide)) (by rfl) pass0 (pa_cons (pe_op op_add (pe_callH L.cell (hr.mono (by decide)) (by rfl) pass0 (pa_cons (pv 0) (pa_cons (pv 1) pa_nil))) (pv 1)) pa_nil)), ?_⟩
  intro D H sc ns j o2 o3 o4 o5 o6 o7 o8 o9 o10 o11 h hT q
  refine ⟨_, rfl, _, rfl, sc, ns, j, rfl, h, fun n => ⟨_, rfl, n, _, rfl, rfl, _, rfl, fun p o hp pl => q _ p ?_ ?_ pl⟩⟩
  · rw [wo_upd]
    exact sqL_same (wo_none hp) h
  · rw [wo_upd]
    exact hT.ext (wo_none hp)
theorem s1 (L : TL P w K mg base C CN CO c tw T') (hr : Room 12 (XL P w K mg base f c A outer s H0 E).A) : ∃ t, PS (XL P w K mg base f c A outer s H0 E) (fb 1) t ∧ ∀ (D : Ends) (H : Hp) (sc p : Addr) (ns : List Int) (o1 o3 o4 o5 o6 o7 o8 o9 o10 o11 : Option V), SqL K (wo H p) sc (ns.map V.int) → LamX.Tabs T' (wo H p) → Pool H p 0 →
      (∀ H' M xs pcs c', SqL K (wo H' p) sc (ns.map V.int) → LamX.Tabs T' (wo H' p) → Pool H' p c' → c' < 200 → M ≠ p → H' M = some (.lst xs) → PySem.W.EachIs (PieceT H') xs (q0 :: pcs) → Nms pcs → D.nx (sg sc o1 (some (.ref p)) (some (.ref M)) o4 o5 o6 o7 o8 o9 o10 o11) H') → t D (sg sc o1 (some (.ref p)) o3 o4 o5 o6 o7 o8 o9 o10 o11) H := by
  refine ⟨_, ps_set (i := 3) scLaw.nd rfl (.inl rfl) (pe_callH L.pieces (hr.mono (by decide)) (by rfl) pass0 (pa_cons (pv 2) pa_nil)), ?_⟩
  intro D H sc p ns o1 o3 o4 o5 o6 o7 o8 o9 o10 o11 h hT hP q
  refine ⟨_, rfl, p, 0, rfl, hP, by decide, fun M xs pcs H' c' dr pl hc hM0 hM each ok few nm => ?_⟩
  exact q H' M xs pcs c' (sqL_same (wo_dr dr) h) (hT.ext (wo_dr dr)) pl (by omega) (pool_ne hP hM0) hM each ⟨ok, few, nm⟩
theorem s2 (L : TL P w K mg base C CN CO c tw T') (hr : Room 12 (XL P w K mg base f c A outer s H0 E).A) : ∃ t, PS (XL P w K mg base f c A outer s H0 E) (fb 2) t ∧ ∀ (D : Ends) (H : Hp) (sc p M : Addr) (ns : List Int) (xs : List V) (pcs : List Pc) (cc : Nat) (o1 o4 o5 o6 o7 o8 o9 o10 o11 : Option V), SqL K (wo H p) sc (ns.map V.int) → LamX.Tabs T' (wo H p) → Pool H p cc → M ≠ p → H M = some (.lst xs) → PySem.W.EachIs (PieceT H) xs (q0 :: pcs) → Nms pcs →
      (∀ H' I, Fx K C sc M I ns xs pcs (wo H' p) → LamX.Tabs T' (wo H' p) → Pool H' p cc → D.nx (sg sc o1 (some (.ref p)) (some (.ref M)) o4 o5 o6 o7 o8 o9 (some (.ref I)) o11) H') → t D (sg sc o1 (some (.ref p)) (some (.ref M)) o4 o5 o6 o7 o8 o9 o10 o11) H := by
  refine ⟨_, ps_set (i := 10) scLaw.nd rfl (.inr rfl) (pe_makeH L.mkx (hr.mono (by decide)) (by rfl) L.img (pa_cons (pv 3) (pa_cons (pe_tup (pa_cons pe_str (pa_cons pe_int pa_nil))) pa_nil))), ?_⟩
  intro D H sc p M ns xs pcs cc o1 o4 o5 o6 o7 o8 o9 o10 o11 h hT hP Mp hM each nm q
  refine ⟨_, rfl, (by show 2 ≤ sizeLine; decide), fun r hr0 => fun x dx hx hdx hne => ?_⟩
  have sr := same_new (o := .tup [V.str "start", V.int 0]) hr0
  have s1 := (same_new (o := .own x) hdx).trans (same_new (o := .ins C dx []) (H := upd (upd H r (.tup [V.str "start", V.int 0])) dx (.own x)) (by rw [upd_ne hne.symm]; exact hx))
  have s01 := sr.trans s1
  refine ⟨x, M, r, dx, xs, q0, pcs, rfl, upd_same, s01 _ _ hM, eachs_imp (fun _ _ => pieceT_s (TupS.of s01)) each, nm.ok, by decide, s1 _ _ upd_same, fun H2 kp himg => ⟨rfl, ?_⟩⟩
  have s2 : Same H H2 := fun b o e => kp b o (ne_of_none (sr _ _ e) hx) (s01 _ _ e)
  have xp : x ≠ p := pool_ne (pool_same sr hP) hx
  have noTup : ∀ {H : Hp} {cc : Nat}, Pool H p cc → ∀ {b : Addr} {ys : List V}, H b = some (.tup ys) → b ≠ p := fun {H cc} hP {b ys} e z => by
    obtain ⟨_, _, _, e2, _⟩ := hP.ex
    rw [z, e2] at e
    cases e
  have P2 := pool_same s2 hP
  have tw : TupS H2 (wo H2 p) := fun b ys e => wo_at (noTup P2 e) e
  obtain ⟨ok, dx2, p2, d2, r2, ys2, i1, i2, i3⟩ := himg
  refine q H2 x ⟨sqL_same (wo_mono s2) h, wo_at Mp (s2 _ _ hM), eachs_imp (fun _ _ => pieceT_s ((TupS.of s2).trans tw)) each, ok, dx2, p2, d2, r2, ys2, wo_at xp i1, tw _ _ i2, eachs_imp (fun _ _ => pieceT_s tw) i3⟩ (hT.ext (wo_mono s2)) P2
end
end DR

namespace DR
open PySem PySem.Spec PyProof.Rows L2
def GenP (l : Pl) (n : Nat) : Prop := l.length ≤ n ∧ ∀ q ∈ l, q.1 ∈ allK ∧ ScOk q.2
def Full (l : Pl) (pcs : List Pc) : Prop := ∀ q ∈ q0 :: pcs, ∃ n : Int, l.lookup q.1 = some (.i n) ∧ n.natAbs ≤ 2000
def setP (l : Pl) (z : Str) (c : Sc) : Pl := if l.any (fun q => decide (q.1 = z)) then l.map (fun q => if q.1 = z then (q.1, c) else q) else l ++ [(z, c)]
theorem plD_set (l : Pl) (z : Str) (c : Sc) : plD (setP l z c) = putK (plD l) (.inr z) c.v := by
  unfold setP putK plD
  have e : (l.map fun q => ((.inr q.1 : Key), q.2.v)).any (fun kv => decide (kv.1 = .inr z)) = l.any fun q => decide (q.1 = z) := by
    rw [List.any_map]
    congr 1
    funext q
    simp
  rw [e]
  split
  · rw [List.map_map, List.map_map]
    refine List.map_congr_left fun q _ => ?_
    by_cases h : q.1 = z
    · simp [h]
    · simp [h]
  · rw [List.map_append]
    rfl
theorem GenP.set {l : Pl} {n : Nat} {z : Str} {c : Sc} (h : GenP l n) (hz : z ∈ allK) (hc : ScOk c) : GenP (setP l z c) (n + 1) := by
  obtain ⟨a, b⟩ := h
  unfold setP
  split
  · refine ⟨by rw [List.length_map]; omega, fun q hq => ?_⟩
    obtain ⟨x, hx, rfl⟩ := List.mem_map.mp hq
    split
    · exact ⟨(b x hx).1, hc⟩
    · exact b x hx
  · refine ⟨by rw [List.length_append]; show l.length + 1 ≤ _; omega, fun q hq => ?_⟩
    rcases List.mem_append.mp hq with hq | hq
    · exact b q hq
    · rw [List.mem_singleton.mp hq]
      exact ⟨hz, hc⟩
theorem lookup_some {l : Pl} {z : Str} (h : z ∈ l.map (·.1)) : ∃ c, l.lookup z = some c := by
  induction l with
  | nil => cases h
  | cons p l ih =>
    obtain ⟨a, b⟩ := p
    by_cases c : a = z
    · subst c
      exact ⟨b, by simp [List.lookup]⟩
    · rcases List.mem_cons.mp h with h | h
      · exact absurd h.symm c
      · obtain ⟨d, hd⟩ := ih h
        refine ⟨d, ?_⟩
        have : (z == a) = false := by simpa using fun e => c e.symm
        simp only [List.lookup, this]
        exact hd
theorem apart_gen {l : Pl} {pcs : List Pc} (nm : Nms pcs) (pm : (l.map (·.1)).Perm ((q0 :: pcs).map (·.1))) (near : Near l 2000) : GenP l 5 ∧ Full l pcs := by
  refine ⟨⟨?_, fun q hq => ?_⟩, fun q hq => ?_⟩
  · have e := pm.length_eq
    rw [List.length_map, List.length_map, List.length_cons] at e
    have := nm.few
    omega
  · obtain ⟨n, e, hn⟩ := near q hq
    obtain ⟨x, hx, ex⟩ := List.mem_map.mp (pm.mem_iff.mp (List.mem_map.mpr ⟨q, hq, rfl⟩))
    refine ⟨by rw [← ex]; exact nms_all nm x hx, ?_⟩
    rw [e]
    show n.natAbs < 10 ^ 12
    have : (2000 : Nat) < 10 ^ 12 := by decide
    omega
  · obtain ⟨c, hc⟩ := lookup_some (pm.mem_iff.mpr (List.mem_map.mpr ⟨q, hq, rfl⟩))
    obtain ⟨n, e, hn⟩ := near _ (lookup_mem hc)
    have e : c = .i n := e
    exact ⟨n, by rw [hc, e], hn⟩
theorem extD_put {H : Hp} {p D : Addr} {kvs : List (Key × V)} {o : HO} (hD : H D = some (.dK kvs)) : ExtD (wo H p) (wo (upd H D o) p) := fun b x e n m => by
  have bp : b ≠ p := fun z => by
    rw [z] at e
    unfold wo at e
    rw [if_pos rfl] at e
    cases e
  rw [wo_ne bp] at e ⊢
  have bD : b ≠ D := fun z => by
    rw [z, hD] at e
    exact m _ (Option.some.inj e).symm
  rw [upd_ne bD]
  exact e
theorem tabs_dk {T : List (Addr × Str)} {G G' : Hp} (t : LamX.Tabs T G) (e : ∀ b o, G b = some o → (∀ kvs, o ≠ .dK kvs) → G' b = some o) : LamX.Tabs T G' := fun p hp => by
  obtain ⟨tb, h1, h2, h3⟩ := t p hp
  refine ⟨tb, e _ _ h1 (by intro x z; cases z), h2, fun p' cv' q' => ?_⟩
  obtain ⟨c0, z1, z2⟩ := h3 p' cv' q'
  exact ⟨c0, z1, e _ _ z2 (by intro x z; cases z)⟩
theorem putD_e {H : Hp} {p D : Addr} {kvs : List (Key × V)} {o : HO} (hD : H D = some (.dK kvs)) : ∀ b x, wo H p b = some x → (∀ kvs, x ≠ .dK kvs) → wo (upd H D o) p b = some x := fun b x e m => by
  have bp : b ≠ p := fun z => by
    rw [z] at e
    unfold wo at e
    rw [if_pos rfl] at e
    cases e
  rw [wo_ne bp] at e ⊢
  have bD : b ≠ D := fun z => by
    rw [z, hD] at e
    exact m _ (Option.some.inj e).symm
  rw [upd_ne bD]
  exact e
/-- what stands of the places -/
structure Sd (K : PySem.W.Frag) (T' : List (Addr × Str)) (C sc M I p D : Addr) (ns : List Int) (xs : List V) (pcs : List Pc) (l : Pl) (c : Nat) (H : Hp) : Prop where
  fx : Fx K C sc M I ns xs pcs (wo H p)
  tabs : LamX.Tabs T' (wo H p)
  pool : Pool H p c
  Dp : D ≠ p
  dict : H D = some (.dK (plD l))
theorem Sd.dr {K : PySem.W.Frag} {T' : List (Addr × Str)} {C sc M I p D : Addr} {ns : List Int} {xs : List V} {pcs : List Pc} {l : Pl} {c c' : Nat} {H H' : Hp} (h : Sd K T' C sc M I p D ns xs pcs l c H) (d : Dr p H H') (pl : Pool H' p c') : Sd K T' C sc M I p D ns xs pcs l c' H' :=
  ⟨h.fx.ext (.of (wo_dr d)), h.tabs.ext (wo_dr d), pl, h.Dp, d _ _ h.Dp h.dict⟩
theorem Sd.put {K : PySem.W.Frag} {T' : List (Addr × Str)} {C sc M I p D : Addr} {ns : List Int} {xs : List V} {pcs : List Pc} {l l' : Pl} {c : Nat} {H : Hp} (h : Sd K T' C sc M I p D ns xs pcs l c H) : Sd K T' C sc M I p D ns xs pcs l' c (upd H D (.dK (plD l'))) :=
  ⟨h.fx.ext (extD_put h.dict), tabs_dk h.tabs (putD_e h.dict), pool_put h.pool h.Dp.symm, h.Dp, upd_same⟩
section
variable {P : Program} {w : World} {K : PySem.W.Frag} {mg : Str → Option Value} {base : Heap} {C CN CO f c tw : Addr} {T' : List (Addr × Str)} {A : Around} {outer : List Env} {s : Shared} {H0 : Hp} {E : XK}
theorem s3 (L : TL P w K mg base C CN CO c tw T') (hr : Room 12 (XL P w K mg base f c A outer s H0 E).A) : ∃ t, PS (XL P w K mg base f c A outer s H0 E) (fb 3) t ∧ ∀ (D : Ends) (H : Hp) (sc p M I : Addr) (ns : List Int) (xs : List V) (pcs : List Pc) (cc : Nat) (o1 o4 o5 o6 o7 o8 o9 o11 : Option V), Fx K C sc M I ns xs pcs (wo H p) → LamX.Tabs T' (wo H p) → Pool H p cc → cc < 200 → Nms pcs →
      (∀ H' Dd l c', Sd K T' C sc M I p Dd ns xs pcs l c' H' → c' < 300 → GenP l 5 → Full l pcs → D.nx (sg sc o1 (some (.ref p)) (some (.ref M)) o4 o5 o6 o7 o8 o9 (some (.ref I)) (some (.ref Dd))) H') → t D (sg sc o1 (some (.ref p)) (some (.ref M)) o4 o5 o6 o7 o8 o9 (some (.ref I)) o11) H := by
  refine ⟨_, ps_set (i := 11) scLaw.nd rfl (.inr rfl) (pe_callH L.apart (hr.mono (by decide)) (by rfl) pass0 (pa_cons (pv 2) (pa_cons (pv 3) pa_nil))), ?_⟩
  intro D H sc p M I ns xs pcs cc o1 o4 o5 o6 o7 o8 o9 o11 h hT hP hc nm q
  refine ⟨_, rfl, _, rfl, p, M, cc, xs, q0 :: pcs, rfl, hP, by omega, wo_sub _ _ h.lst, eachs_imp (fun _ _ => pieceT_s (TupS.of wo_sub)) h.each, nm.ok, fun Dd l H' c' dr pl hc' hD0 hD pm near => ?_⟩
  obtain ⟨g1, g2⟩ := apart_gen nm pm near
  exact q H' Dd l c' ⟨h.ext (.of (wo_dr dr)), hT.ext (wo_dr dr), pl, pool_ne hP hD0, hD⟩ (by omega) g1 g2
theorem s4 (L : TL P w K mg base C CN CO c tw T') (hr : Room 12 (XL P w K mg base f c A outer s H0 E).A) : ∃ t, PS (XL P w K mg base f c A outer s H0 E) (fb 4) t ∧ ∀ (D : Ends) (H : Hp) (sc p M I Dd : Addr) (ns : List Int) (xs : List V) (pcs : List Pc) (l : Pl) (cc : Nat) (o1 o4 o5 o6 o7 o8 o9 : Option V), Sd K T' C sc M I p Dd ns xs pcs l cc H → cc < 300 → Nms pcs →
      (∀ H' (r : Int) (z : Str), Sd K T' C sc M I p Dd ns xs pcs l (cc + 2) H' → (∃ q ∈ q0 :: pcs, q.1 = z) → D.nx (sg sc o1 (some (.ref p)) (some (.ref M)) (some (.int r)) (some (.str z)) o6 o7 o8 o9 (some (.ref I)) (some (.ref Dd))) H') → t D (sg sc o1 (some (.ref p)) (some (.ref M)) o4 o5 o6 o7 o8 o9 (some (.ref I)) (some (.ref Dd))) H := by
  refine ⟨_, (ps_asg (pe_tup (pa_cons (pe_callH L.take (hr.mono (by decide)) (by rfl) pass0 (pa_cons (pv 2) (pa_cons pe_int pa_nil))) (pa_cons (pe_ix ix_tup (pe_callH L.one (hr.mono (by decide)) (by rfl) pass0 (pa_cons (pv 2) (pa_cons (pv 3) pa_nil))) pe_int (fun _ _ => rfl)) pa_nil))) (pg_tup rfl (pgs_cons (pg_name (i := 4) scLaw.nd rfl (.inl rfl)) (pgs_cons (pg_name (i := 5) scLaw.nd rfl (.inr rfl)) pgs_nil)))), ?_⟩
  intro D H sc p M I Dd ns xs pcs l cc o1 o4 o5 o6 o7 o8 o9 h hc nm q
  refine ⟨_, rfl, p, cc, 6, rfl, h.pool, by omega, by decide, by decide, fun r o r0 r6 pl1 => ?_⟩
  have d1 : Dr p H (upd H p o) := fun b x hb e => by rw [upd_ne hb]; exact e
  generalize upd H p o = H1 at d1 pl1 ⊢
  have h1 := h.dr d1 pl1
  have lx : xs.length = pcs.length + 1 := h.fx.each.length
  have few := nm.few
  have Mp : M ≠ p := fun z => by
    have := h.fx.lst
    rw [z] at this
    unfold wo at this
    rw [if_pos rfl] at this
    cases this
  refine ⟨_, rfl, _, rfl, p, M, cc + 1, xs, rfl, pl1, by omega, .inl (SqL.of (wo_sub _ _ h1.fx.lst)), Mp, by omega, by omega, fun v o2 hv pl2 => ?_⟩
  have d2 : Dr p H1 (upd H1 p o2) := fun b x hb e => by rw [upd_ne hb]; exact e
  generalize upd H1 p o2 = H2 at d2 pl2 ⊢
  have h2 := h1.dr d2 pl2
  obtain ⟨pc, hpc, t, b, ws, rfl, ht, _, _⟩ := each_mem h2.fx.each v hv
  refine ⟨t, _, _, _, rfl, rfl, SqT.of (wo_sub _ _ ht), at_of (i := 0) rfl, (by show 2 ≤ sizeLine; decide), fun tp htp => ?_⟩
  have s3 := same_new (o := .tup [V.int r, V.str pc.1]) htp
  exact ⟨tp, _, rfl, SqT.of upd_same, rfl, _, _, rfl, _, _, rfl, rfl, q _ r pc.1 (h2.dr (fun b x _ e => s3 _ _ e) (pool_same s3 pl2)) ⟨pc, hpc, rfl⟩⟩
theorem s5 (L : TL P w K mg base C CN CO c tw T') (hr : Room 12 (XL P w K mg base f c A outer s H0 E).A) : ∃ t, PS (XL P w K mg base f c A outer s H0 E) (fb 5) t ∧ ∀ (D : Ends) (H : Hp) (sc p M I Dd : Addr) (ns : List Int) (xs : List V) (pcs : List Pc) (l : Pl) (cc : Nat) (r : Int) (z : Str) (o1 o6 o7 o8 o9 : Option V), Sd K T' C sc M I p Dd ns xs pcs l cc H → cc < 400 → z ∈ allK → GenP l 5 → Full l pcs →
      (∀ H' l' c', Sd K T' C sc M I p Dd ns xs pcs l' c' H' → c' ≤ cc + 1 → GenP l' 6 → (r = 0 ∨ Full l' pcs) → D.nx (sg sc o1 (some (.ref p)) (some (.ref M)) (some (.int r)) (some (.str z)) o6 o7 o8 o9 (some (.ref I)) (some (.ref Dd))) H') → t D (sg sc o1 (some (.ref p)) (some (.ref M)) (some (.int r)) (some (.str z)) o6 o7 o8 o9 (some (.ref I)) (some (.ref Dd))) H := by
  have hu := hu_of hr
  refine ⟨_, (ps_if (pt_cmpR op_eq (pv 4) pe_int (nomark _)) (pss_one (ps_dput hu (pv 11) (pv 5) (pe_callH L.one (hr.mono (by decide)) (by rfl) pass0 (pa_cons (pv 2) (pa_cons (pe_lst (pa_cons pe_non (pa_cons pe_bl (pa_cons pe_str (pa_cons (pe_dget hu (pv 11) pe_str (fun _ _ => rfl)) pa_nil))))) pa_nil))) rfl)) pss_nil), ?_⟩
  intro D H sc p M I Dd ns xs pcs l cc r z o1 o6 o7 o8 o9 h hc hz gen full q
  refine ⟨_, rfl, rfl, _, rfl, ?_⟩
  rw [eq_int]
  by_cases hr0 : r = 0
  · rw [decide_eq_true hr0]
    obtain ⟨n, hn, hn2⟩ := full q0 (List.mem_cons_self ..)
    have g := DGet.k (k := .inr sStart) h.dict
    rw [plD_val, show l.lookup sStart = some (.i n) from hn] at g
    have g : DGet H Dd (.str "start") (some (V.int n)) := g
    refine iteT ⟨_, rfl, _, rfl, Dd, _, rfl, g, (by show 4 ≤ sizeLine; decide), fun a ha => ?_⟩
    have sa := same_new (o := .lst [V.non, V.bl true, V.str "5", V.int n]) ha
    have ap : a ≠ p := pool_ne h.pool ha
    refine ⟨p, a, cc, _, rfl, pool_same sa h.pool, by omega, .inl (SqL.of upd_same), ap, (by show 0 < 4; decide), (by show 4 < 1000000; decide), fun v o hv pl1 => ?_⟩
    obtain ⟨cS, rfl, hcS⟩ : ∃ c : Sc, v = c.v ∧ ScOk c := by
      rcases List.mem_cons.mp hv with rfl | hv
      · exact ⟨.no, rfl, trivial⟩
      rcases List.mem_cons.mp hv with rfl | hv
      · exact ⟨.tr, rfl, trivial⟩
      rcases List.mem_cons.mp hv with rfl | hv
      · exact ⟨.s "5", rfl, rfl⟩
      rcases List.mem_cons.mp hv with rfl | hv
      · refine ⟨.i n, rfl, ?_⟩
        show n.natAbs < 10 ^ 12
        have : (2000 : Nat) < 10 ^ 12 := by decide
        omega
      · cases hv
    have d1 : Dr p H (upd (upd H a (.lst [V.non, V.bl true, V.str "5", V.int n])) p o) := fun b x hb e => by
      rw [upd_ne hb]
      exact sa _ _ e
    generalize upd (upd H a (.lst [V.non, V.bl true, V.str "5", V.int n])) p o = H1 at d1 pl1 ⊢
    have h1 := h.dr d1 pl1
    have len := gen.1
    refine ⟨_, rfl, _, rfl, Dd, _, rfl, DPut.k (k := .inr z) h1.dict (small1000 (by unfold plD; rw [List.length_map]; omega)), ?_⟩
    rw [← plD_set]
    exact q _ _ _ h1.put (Nat.le_refl _) (gen.set hz hcS) (.inl hr0)
  · rw [decide_eq_false hr0]
    exact iteF (q H l cc h (by omega) ⟨by have := gen.1; omega, gen.2⟩ (.inr full))
theorem s6 (L : TL P w K mg base C CN CO c tw T') (hr : Room 12 (XL P w K mg base f c A outer s H0 E).A) : ∃ t, PS (XL P w K mg base f c A outer s H0 E) (fb 6) t ∧ ∀ (D : Ends) (H : Hp) (sc p M I Dd : Addr) (ns : List Int) (xs : List V) (pcs : List Pc) (l : Pl) (cc : Nat) (r : Int) (z : Str) (o1 o6 o7 o8 o9 : Option V), Sd K T' C sc M I p Dd ns xs pcs l cc H → cc < 400 → z ∈ allK → GenP l 6 → (r = 0 ∨ Full l pcs) → Nms pcs →
      (∀ H' l' c', Sd K T' C sc M I p Dd ns xs pcs l' c' H' → c' ≤ cc + 2 → GenP l' 7 → D.nx (sg sc o1 (some (.ref p)) (some (.ref M)) (some (.int r)) (some (.str z)) o6 o7 o8 o9 (some (.ref I)) (some (.ref Dd))) H') → t D (sg sc o1 (some (.ref p)) (some (.ref M)) (some (.int r)) (some (.str z)) o6 o7 o8 o9 (some (.ref I)) (some (.ref Dd))) H := by
  have hu := hu_of hr
  refine ⟨_, (ps_if (pt_cmpR op_eq (pv 4) pe_int (nomark _)) (pss_one (ps_dput hu (pv 11) (pv 5) (pe_op op_sub (pe_op op_add (pe_dget hu (pv 11) (pe_ix ix_tup (pe_callH L.one (hr.mono (by decide)) (by rfl) pass0 (pa_cons (pv 2) (pa_cons (pv 3) pa_nil))) pe_int (fun _ _ => rfl)) (fun _ _ => rfl)) (pe_callH L.take (hr.mono (by decide)) (by rfl) pass0 (pa_cons (pv 2) (pa_cons pe_int pa_nil)))) pe_int) rfl)) pss_nil), ?_⟩
  intro D H sc p M I Dd ns xs pcs l cc r z o1 o6 o7 o8 o9 h hc hz gen full nm q
  refine ⟨_, rfl, rfl, _, rfl, ?_⟩
  rw [eq_int]
  by_cases hr1 : r = 1
  · rw [decide_eq_true hr1]
    have full : Full l pcs := full.resolve_left (by omega)
    have lx : xs.length = pcs.length + 1 := h.fx.each.length
    have few := nm.few
    have Mp : M ≠ p := fun z => by
      have := h.fx.lst
      rw [z] at this
      unfold wo at this
      rw [if_pos rfl] at this
      cases this
    refine iteT ⟨_, rfl, _, rfl, _, rfl, p, M, cc, xs, rfl, h.pool, by omega, .inl (SqL.of (wo_sub _ _ h.fx.lst)), Mp, by omega, by omega, fun v o hv pl1 => ?_⟩
    have d1 : Dr p H (upd H p o) := fun b x hb e => by rw [upd_ne hb]; exact e
    generalize upd H p o = H1 at d1 pl1 ⊢
    have h1 := h.dr d1 pl1
    obtain ⟨pc, hpc, t, b, ws, rfl, ht, _, _⟩ := each_mem h1.fx.each v hv
    obtain ⟨n, hn, hn2⟩ := full pc hpc
    have g := DGet.k (k := .inr pc.1) h1.dict
    rw [plD_val, hn] at g
    refine ⟨t, _, _, _, rfl, rfl, SqT.of (wo_sub _ _ ht), at_of (i := 0) rfl, Dd, _, rfl, g, _, rfl, p, cc + 1, 3, rfl, pl1, by omega, by decide, by decide, fun r3 o3 r30 r33 pl2 => ?_⟩
    have d2 : Dr p H1 (upd H1 p o3) := fun b x hb e => by rw [upd_ne hb]; exact e
    generalize upd H1 p o3 = H2 at d2 pl2 ⊢
    have h2 := h1.dr d2 pl2
    have len := gen.1
    refine ⟨_, _, rfl, rfl, _, _, rfl, rfl, _, rfl, _, rfl, Dd, _, rfl, DPut.k (k := .inr z) h2.dict (small1000 (by unfold plD; rw [List.length_map]; omega)), ?_⟩
    have e := plD_set l z (.i (n + r3 - 1))
    have e : plD (setP l z (.i (n + r3 - 1))) = putK (plD l) (.inr z) (V.int (n + r3 - 1)) := e
    rw [← e]
    refine q _ _ _ h2.put (Nat.le_refl _) (gen.set hz ?_)
    show (n + r3 - 1).natAbs < 10 ^ 12
    have : (2010 : Nat) < 10 ^ 12 := by decide
    omega
  · rw [decide_eq_false hr1]
    exact iteF (q H l cc h (by omega) ⟨by have := gen.1; omega, gen.2⟩)
end
end DR

namespace DR
open PySem PySem.Spec PyProof.Rows L2
theorem sqT_ne {K : PySem.W.Frag} {H : Hp} {D c : Addr} {xs : List V} {o0 o : HO} (h : SqT K H c xs) (hD : H D = some o0) (n1 : ∀ xs, o0 ≠ .tup xs) (n2 : ∀ u xs, o0 ≠ .frz u (.tup xs)) : SqT K (upd H D o) c xs := by
  rcases h with (h | ⟨u, h⟩) | h
  · exact .inl (.inl (by rw [upd_ne (fun z => by rw [z, hD] at h; exact n1 _ (Option.some.inj h))]; exact h))
  · exact .inl (.inr ⟨u, by rw [upd_ne (fun z => by rw [z, hD] at h; exact n2 _ _ (Option.some.inj h))]; exact h⟩)
  · exact .inr h
theorem merge_pl : ∀ (l2 a : Pl), mergeK (plD a) (plD l2) = plD (l2.foldl (fun a q => setP a q.1 q.2) a)
  | [], a => rfl
  | q :: l2, a => by
    show mergeK (putK (plD a) (.inr q.1) q.2.v) (plD l2) = _
    rw [← plD_set]
    exact merge_pl l2 _
theorem GenP.fold : ∀ {l2 a : Pl} {n : Nat}, GenP a n → (∀ q ∈ l2, q.1 ∈ allK ∧ ScOk q.2) → GenP (l2.foldl (fun a q => setP a q.1 q.2) a) (n + l2.length)
  | [], a, n, h, _ => h
  | q :: l2, a, n, h, e => by
    have := (h.set (e q (List.mem_cons_self ..)).1 (e q (List.mem_cons_self ..)).2).fold fun x hx => e x (List.mem_cons_of_mem _ hx)
    rw [List.length_cons, show n + (l2.length + 1) = n + 1 + l2.length by omega]
    exact this
section
variable {P : Program} {w : World} {K : PySem.W.Frag} {mg : Str → Option Value} {base : Heap} {C CN CO f c tw : Addr} {T' : List (Addr × Str)} {A : Around} {outer : List Env} {s : Shared} {H0 : Hp} {E : XK}
theorem s7 (L : TL P w K mg base C CN CO c tw T') (hr : Room 12 (XL P w K mg base f c A outer s H0 E).A) : ∃ t, PS (XL P w K mg base f c A outer s H0 E) (fb 7) t ∧ ∀ (D : Ends) (H : Hp) (sc p M I Dd : Addr) (ns : List Int) (xs : List V) (pcs : List Pc) (l : Pl) (cc : Nat) (r : Int) (z : Str) (o1 o6 o7 o8 o9 : Option V), Sd K T' C sc M I p Dd ns xs pcs l cc H → GenP l 7 →
      (∀ H' Dd' l', Sd K T' C sc M I p Dd' ns xs pcs l' cc H' → GenP l' 7 → D.nx (sg sc o1 (some (.ref p)) (some (.ref M)) (some (.int r)) (some (.str z)) o6 o7 o8 o9 (some (.ref I)) (some (.ref Dd'))) H') → t D (sg sc o1 (some (.ref p)) (some (.ref M)) (some (.int r)) (some (.str z)) o6 o7 o8 o9 (some (.ref I)) (some (.ref Dd))) H := by
  have hu := hu_of hr
  refine ⟨_, (ps_if (pt_cmpR op_eq (pv 4) pe_int (nomark _)) (pss_one (ps_set (i := 11) scLaw.nd rfl (.inr rfl) (pe_callTy (call_dictP rfl) (by rfl) L.bi.dict (by decide +kernel) (pa_cons (pe_lock (pe_lc (own := [("q", 12)]) (g := gName 12) (tt := _) (te := tTup (tCons (tVar 12) (tCons (tDGet (tVar 11) (tVar 12)) tNil))) rfl scLaw.nd (pi_keys (pv 11)) (blkOk_by (N := NL) (sc := defScope sLaw) (by decide +kernel)) (fun _ _ _ _ _ => pg_name (i := 12) scLaw.nd rfl (.inl rfl)) (fun _ _ _ _ _ => pts_one (pt_cmpR op_ne (pv 12) (pv 5) (nomark _))) (fun _ _ _ _ _ => (pe_tup (pa_cons (pv 12) (pa_cons (pe_dget hu (pv 11) (pv 12) (fun _ _ => rfl)) pa_nil)))))) pa_nil)))) pss_nil), ?_⟩
  intro D H sc p M I Dd ns xs pcs l cc r z o1 o6 o7 o8 o9 h gen q
  refine ⟨_, rfl, rfl, _, rfl, ?_⟩
  rw [eq_int]
  by_cases hr0 : r = 2
  · rw [decide_eq_true hr0]
    obtain ⟨len, each⟩ := gen
    refine iteT ⟨Dd, _, h.dict, trivial, fun od => ?_⟩
    have kf : ∀ b x, b ≠ Dd → H b = some x → upd H Dd (.frz od (.dK (plD l))) b = some x := fun b x hb e => by rw [upd_ne hb]; exact e
    have hDf : upd H Dd (.frz od (.dK (plD l))) Dd = some (.frz od (.dK (plD l))) := upd_same
    generalize upd H Dd (.frz od (.dK (plD l))) = Hf at kf hDf ⊢
    refine ⟨_, rfl, Dd, od, rfl, .inl ⟨_, hDf, fun N hN => ?_⟩⟩
    have DN : Dd ≠ N := ne_of_none hDf hN
    have lk : (plD l).length = l.length := List.length_map _
    refine lc_it walk_keys (fun i H' => (∀ b x, b ≠ N → Hf b = some x → H' b = some x) ∧ ∃ (ps : List Addr) (l2 : Pl), H' N = some (.lst (ps.map V.ref)) ∧ ps.length ≤ i ∧ Paired (fun p kv => SqT K H' p [kV kv.1, kv.2]) ps (plD l2) ∧ l2.length ≤ i ∧ ∀ q ∈ l2, q.1 ∈ allK ∧ ScOk q.2)
      ⟨fun b x hb e => by rw [upd_ne hb]; exact e, [], [], upd_same, Nat.le_refl _, .nil, Nat.le_refl _, fun _ h => by cases h⟩ (fun i H' _ ⟨kp, _⟩ => kp _ _ DN hDf) ?_ ?_
    · rintro i y H' H'' hi ⟨kp, ps, l2, hN', hlp, hps, hl2, e2⟩ ⟨rfl, k, v, hk, rfl⟩
      obtain ⟨q1, hq1, ek⟩ : ∃ q1, l[i]? = some q1 ∧ (k, v) = ((.inr q1.1 : Key), q1.2.v) := by
        unfold plD at hk
        rw [List.getElem?_map] at hk
        cases e : l[i]? with
        | none => rw [e] at hk; cases hk
        | some q1 => rw [e] at hk; exact ⟨q1, rfl, (Option.some.inj hk).symm⟩
      cases ek
      have hm := List.mem_of_getElem? hq1
      have hDn := kp _ _ DN hDf
      obtain ⟨cS, hcl⟩ := lookup_some (List.mem_map.mpr ⟨q1, hm, rfl⟩)
      have hcS := (each _ (lookup_mem hcl)).2
      have gd : DGet H'' Dd (.str q1.1) (some cS.v) := .inl ⟨plD l, .inr q1.1, .inr ⟨od, hDn⟩, rfl, by rw [plD_val, hcl]; rfl⟩
      refine ⟨rfl, _, rfl, _, rfl, rfl, _, rfl, ?_⟩
      show if (!decide (V.str q1.1 = V.str z)) = true then _ else _
      cases cz : !decide (V.str q1.1 = V.str z) with
      | false => exact iteF ⟨kp, ps, l2, hN', by omega, hps, by omega, e2⟩
      | true =>
        refine iteT ⟨_, rfl, _, rfl, _, rfl, Dd, _, rfl, gd, (by show 2 ≤ sizeLine; decide), fun u hu' => ?_⟩
        have su := same_new (o := .tup [V.str q1.1, cS.v]) hu'
        have gu : upd H'' u (.tup [V.str q1.1, cS.v]) u = some (.tup [V.str q1.1, cS.v]) := upd_same
        have hN2 := su _ _ hN'
        refine ⟨ps.map V.ref, hN2, small1000 (by rw [List.length_map]; omega), fun b x hb e => by rw [upd_ne hb]; exact su _ _ (kp b x hb e), ps ++ [u], l2 ++ [(q1.1, cS)], ?_, by simp; omega, ?_, by simp; omega, fun x hx => ?_⟩
        · rw [upd_same, List.map_append]
          rfl
        · have e : plD (l2 ++ [(q1.1, cS)]) = plD l2 ++ [((.inr q1.1 : Key), cS.v)] := by
            unfold plD
            rw [List.map_append]
            rfl
          rw [e]
          refine paired_snoc (R := fun p (kv : Key × V) => SqT K (upd (upd H'' u (.tup [V.str q1.1, cS.v])) N (.lst (ps.map V.ref ++ [.ref u]))) p [kV kv.1, kv.2]) (b := ((.inr q1.1 : Key), cS.v)) (sqT_ne (SqT.of gu) hN2 (by intro x z; cases z) (by intro u x z; cases z)) (paired_imp (R := fun p (kv : Key × V) => SqT K H'' p [kV kv.1, kv.2]) (fun a b h => sqT_ne (sqT_same su h) hN2 (by intro x z; cases z) (by intro u x z; cases z)) hps)
        · rcases List.mem_append.mp hx with hx | hx
          · exact e2 x hx
          · rw [List.mem_singleton.mp hx]
            exact ⟨(each q1 hm).1, hcS⟩
    · rintro H' ⟨kp, ps, l2, hN', hlp, hps, hl2, e2⟩
      have hDn := kp _ _ DN hDf
      refine ⟨hDn, ?_⟩
      have ku : ∀ b x, b ≠ Dd → H' b = some x → upd H' Dd (.dK (plD l)) b = some x := fun b x hb e => by rw [upd_ne hb]; exact e
      have hps' : Paired (fun p kv => SqT K (upd H' Dd (.dK (plD l))) p [kV kv.1, kv.2]) ps (plD l2) := paired_imp (fun a b h => sqT_ne h hDn (by intro x z; cases z) (by intro u x z; cases z)) hps
      have hNu := ku _ _ DN.symm hN'
      have kall : ∀ b x, b ≠ Dd → H b = some x → upd H' Dd (.dK (plD l)) b = some x := fun b x hb e => ku _ _ hb (kp _ _ (ne_of_none (kf _ _ hb e) hN) (kf _ _ hb e))
      generalize upd H' Dd (.dK (plD l)) = Hu at hps' hNu kall ⊢
      refine ⟨N, ps, plD l2, rfl, SqL.of hNu, hps', fun Dn hDn0 => ?_⟩
      have em : mergeK [] (plD l2) = plD (l2.foldl (fun a q => setP a q.1 q.2) []) := merge_pl l2 []
      rw [em]
      have s9 := same_new (o := .dK (plD (l2.foldl (fun a q => setP a q.1 q.2) []))) hDn0
      have pD : p ≠ Dd := h.Dp.symm
      obtain ⟨pa, pb, pz, pe, pr⟩ := h.pool.ex
      have hPu : Pool Hu p cc := ⟨pa, pb, pz, kall _ _ pD pe, pr⟩
      have ed : ExtD (wo H p) (wo (upd Hu Dn (.dK (plD (l2.foldl (fun a q => setP a q.1 q.2) [])))) p) := fun b x e n m => by
        have bp : b ≠ p := fun z => by
          rw [z] at e
          unfold wo at e
          rw [if_pos rfl] at e
          cases e
        rw [wo_ne bp] at e ⊢
        have bD : b ≠ Dd := fun z => by
          rw [z, h.dict] at e
          exact m _ (Option.some.inj e).symm
        exact s9 _ _ (kall _ _ bD e)
      have et : LamX.Tabs T' (wo (upd Hu Dn (.dK (plD (l2.foldl (fun a q => setP a q.1 q.2) [])))) p) := tabs_dk h.tabs fun b x e m => by
        have bp : b ≠ p := fun z => by
          rw [z] at e
          unfold wo at e
          rw [if_pos rfl] at e
          cases e
        rw [wo_ne bp] at e ⊢
        have bD : b ≠ Dd := fun z => by
          rw [z, h.dict] at e
          exact m _ (Option.some.inj e).symm
        exact s9 _ _ (kall _ _ bD e)
      refine q _ Dn _ ⟨h.fx.ext ed, et, pool_new hPu hDn0, pool_ne hPu hDn0, upd_same⟩ ?_
      have g0 : GenP ([] : Pl) 0 := ⟨Nat.le_refl _, fun _ h => by cases h⟩
      obtain ⟨a, b⟩ := g0.fold e2
      exact ⟨by omega, b⟩
  · rw [decide_eq_false hr0]
    exact iteF (q H Dd l h gen)
theorem s8 (L : TL P w K mg base C CN CO c tw T') (hr : Room 12 (XL P w K mg base f c A outer s H0 E).A) : ∃ t, PS (XL P w K mg base f c A outer s H0 E) (fb 8) t ∧ ∀ (D : Ends) (H : Hp) (sc p M I Dd : Addr) (ns : List Int) (xs : List V) (pcs : List Pc) (l : Pl) (cc : Nat) (r : Int) (z : Str) (o1 o6 o7 o8 o9 : Option V), Sd K T' C sc M I p Dd ns xs pcs l cc H → GenP l 7 →
      (∀ H' Dd' l', Sd K T' C sc M I p Dd' ns xs pcs l' cc H' → GenP l' 7 → D.nx (sg sc o1 (some (.ref p)) (some (.ref M)) (some (.int r)) (some (.str z)) o6 o7 o8 o9 (some (.ref I)) (some (.ref Dd'))) H') → t D (sg sc o1 (some (.ref p)) (some (.ref M)) (some (.int r)) (some (.str z)) o6 o7 o8 o9 (some (.ref I)) (some (.ref Dd))) H := by
  have hu := hu_of hr
  refine ⟨_, (ps_if (pt_cmpR op_eq (pv 4) pe_int (nomark _)) (pss_one (ps_set (i := 11) scLaw.nd rfl (.inr rfl) (pe_callTy (call_dictP rfl) (by rfl) L.bi.dict (by decide +kernel) (pa_cons (pe_lock (pe_lc (own := [("q", 12)]) (g := gName 12) (tt := _) (te := tTup (tCons (tVar 12) (tCons (tC (.int 0)) tNil))) rfl scLaw.nd (pi_keys (pv 11)) (blkOk_by (N := NL) (sc := defScope sLaw) (by decide +kernel)) (fun _ _ _ _ _ => pg_name (i := 12) scLaw.nd rfl (.inl rfl)) (fun _ _ _ _ _ => pts_one (pt_cmpR op_ne (pv 12) (pv 5) (nomark _))) (fun _ _ _ _ _ => (pe_tup (pa_cons (pv 12) (pa_cons pe_int pa_nil)))))) pa_nil)))) pss_nil), ?_⟩
  intro D H sc p M I Dd ns xs pcs l cc r z o1 o6 o7 o8 o9 h gen q
  refine ⟨_, rfl, rfl, _, rfl, ?_⟩
  rw [eq_int]
  by_cases hr0 : r = 4
  · rw [decide_eq_true hr0]
    obtain ⟨len, each⟩ := gen
    refine iteT ⟨Dd, _, h.dict, trivial, fun od => ?_⟩
    have kf : ∀ b x, b ≠ Dd → H b = some x → upd H Dd (.frz od (.dK (plD l))) b = some x := fun b x hb e => by rw [upd_ne hb]; exact e
    have hDf : upd H Dd (.frz od (.dK (plD l))) Dd = some (.frz od (.dK (plD l))) := upd_same
    generalize upd H Dd (.frz od (.dK (plD l))) = Hf at kf hDf ⊢
    refine ⟨_, rfl, Dd, od, rfl, .inl ⟨_, hDf, fun N hN => ?_⟩⟩
    have DN : Dd ≠ N := ne_of_none hDf hN
    have lk : (plD l).length = l.length := List.length_map _
    refine lc_it walk_keys (fun i H' => (∀ b x, b ≠ N → Hf b = some x → H' b = some x) ∧ ∃ (ps : List Addr) (l2 : Pl), H' N = some (.lst (ps.map V.ref)) ∧ ps.length ≤ i ∧ Paired (fun p kv => SqT K H' p [kV kv.1, kv.2]) ps (plD l2) ∧ l2.length ≤ i ∧ ∀ q ∈ l2, q.1 ∈ allK ∧ ScOk q.2)
      ⟨fun b x hb e => by rw [upd_ne hb]; exact e, [], [], upd_same, Nat.le_refl _, .nil, Nat.le_refl _, fun _ h => by cases h⟩ (fun i H' _ ⟨kp, _⟩ => kp _ _ DN hDf) ?_ ?_
    · rintro i y H' H'' hi ⟨kp, ps, l2, hN', hlp, hps, hl2, e2⟩ ⟨rfl, k, v, hk, rfl⟩
      obtain ⟨q1, hq1, ek⟩ : ∃ q1, l[i]? = some q1 ∧ (k, v) = ((.inr q1.1 : Key), q1.2.v) := by
        unfold plD at hk
        rw [List.getElem?_map] at hk
        cases e : l[i]? with
        | none => rw [e] at hk; cases hk
        | some q1 => rw [e] at hk; exact ⟨q1, rfl, (Option.some.inj hk).symm⟩
      cases ek
      have hm := List.mem_of_getElem? hq1
      have hDn := kp _ _ DN hDf
      have hcS : ScOk (Sc.i 0) := by
        show (0 : Int).natAbs < 10 ^ 12
        decide
      refine ⟨rfl, _, rfl, _, rfl, rfl, _, rfl, ?_⟩
      show if (!decide (V.str q1.1 = V.str z)) = true then _ else _
      cases cz : !decide (V.str q1.1 = V.str z) with
      | false => exact iteF ⟨kp, ps, l2, hN', by omega, hps, by omega, e2⟩
      | true =>
        refine iteT ⟨_, rfl, (by show 2 ≤ sizeLine; decide), fun u hu' => ?_⟩
        have su := same_new (o := .tup [V.str q1.1, V.int 0]) hu'
        have gu : upd H'' u (.tup [V.str q1.1, V.int 0]) u = some (.tup [V.str q1.1, V.int 0]) := upd_same
        have hN2 := su _ _ hN'
        refine ⟨ps.map V.ref, hN2, small1000 (by rw [List.length_map]; omega), fun b x hb e => by rw [upd_ne hb]; exact su _ _ (kp b x hb e), ps ++ [u], l2 ++ [(q1.1, Sc.i 0)], ?_, by simp; omega, ?_, by simp; omega, fun x hx => ?_⟩
        · rw [upd_same, List.map_append]
          rfl
        · have e : plD (l2 ++ [(q1.1, Sc.i 0)]) = plD l2 ++ [((.inr q1.1 : Key), V.int 0)] := by
            unfold plD
            rw [List.map_append]
            rfl
          rw [e]
          refine paired_snoc (R := fun p (kv : Key × V) => SqT K (upd (upd H'' u (.tup [V.str q1.1, V.int 0])) N (.lst (ps.map V.ref ++ [.ref u]))) p [kV kv.1, kv.2]) (b := ((.inr q1.1 : Key), V.int 0)) (sqT_ne (SqT.of gu) hN2 (by intro x z; cases z) (by intro u x z; cases z)) (paired_imp (R := fun p (kv : Key × V) => SqT K H'' p [kV kv.1, kv.2]) (fun a b h => sqT_ne (sqT_same su h) hN2 (by intro x z; cases z) (by intro u x z; cases z)) hps)
        · rcases List.mem_append.mp hx with hx | hx
          · exact e2 x hx
          · rw [List.mem_singleton.mp hx]
            exact ⟨(each q1 hm).1, hcS⟩
    · rintro H' ⟨kp, ps, l2, hN', hlp, hps, hl2, e2⟩
      have hDn := kp _ _ DN hDf
      refine ⟨hDn, ?_⟩
      have ku : ∀ b x, b ≠ Dd → H' b = some x → upd H' Dd (.dK (plD l)) b = some x := fun b x hb e => by rw [upd_ne hb]; exact e
      have hps' : Paired (fun p kv => SqT K (upd H' Dd (.dK (plD l))) p [kV kv.1, kv.2]) ps (plD l2) := paired_imp (fun a b h => sqT_ne h hDn (by intro x z; cases z) (by intro u x z; cases z)) hps
      have hNu := ku _ _ DN.symm hN'
      have kall : ∀ b x, b ≠ Dd → H b = some x → upd H' Dd (.dK (plD l)) b = some x := fun b x hb e => ku _ _ hb (kp _ _ (ne_of_none (kf _ _ hb e) hN) (kf _ _ hb e))
      generalize upd H' Dd (.dK (plD l)) = Hu at hps' hNu kall ⊢
      refine ⟨N, ps, plD l2, rfl, SqL.of hNu, hps', fun Dn hDn0 => ?_⟩
      have em : mergeK [] (plD l2) = plD (l2.foldl (fun a q => setP a q.1 q.2) []) := merge_pl l2 []
      rw [em]
      have s9 := same_new (o := .dK (plD (l2.foldl (fun a q => setP a q.1 q.2) []))) hDn0
      have pD : p ≠ Dd := h.Dp.symm
      obtain ⟨pa, pb, pz, pe, pr⟩ := h.pool.ex
      have hPu : Pool Hu p cc := ⟨pa, pb, pz, kall _ _ pD pe, pr⟩
      have ed : ExtD (wo H p) (wo (upd Hu Dn (.dK (plD (l2.foldl (fun a q => setP a q.1 q.2) [])))) p) := fun b x e n m => by
        have bp : b ≠ p := fun z => by
          rw [z] at e
          unfold wo at e
          rw [if_pos rfl] at e
          cases e
        rw [wo_ne bp] at e ⊢
        have bD : b ≠ Dd := fun z => by
          rw [z, h.dict] at e
          exact m _ (Option.some.inj e).symm
        exact s9 _ _ (kall _ _ bD e)
      have et : LamX.Tabs T' (wo (upd Hu Dn (.dK (plD (l2.foldl (fun a q => setP a q.1 q.2) [])))) p) := tabs_dk h.tabs fun b x e m => by
        have bp : b ≠ p := fun z => by
          rw [z] at e
          unfold wo at e
          rw [if_pos rfl] at e
          cases e
        rw [wo_ne bp] at e ⊢
        have bD : b ≠ Dd := fun z => by
          rw [z, h.dict] at e
          exact m _ (Option.some.inj e).symm
        exact s9 _ _ (kall _ _ bD e)
      refine q _ Dn _ ⟨h.fx.ext ed, et, pool_new hPu hDn0, pool_ne hPu hDn0, upd_same⟩ ?_
      have g0 : GenP ([] : Pl) 0 := ⟨Nat.le_refl _, fun _ h => by cases h⟩
      obtain ⟨a, b⟩ := g0.fold e2
      exact ⟨by omega, b⟩
  · rw [decide_eq_false hr0]
    exact iteF (q H Dd l h gen)
end
end DR

namespace DR
open PySem PySem.Spec PyProof.Rows L2
/-- what stands once the places are made -/
structure Se (K : PySem.W.Frag) (T' : List (Addr × Str)) (C sc M I p : Addr) (ns : List Int) (xs : List V) (pcs : List Pc) (pv : V) (a : PlA) (c : Nat) (H : Hp) : Prop where
  fx : Fx K C sc M I ns xs pcs (wo H p)
  tabs : LamX.Tabs T' (wo H p)
  pool : Pool H p c
  pl : PlV K (wo H p) pv a
  ok : PlOk a
theorem Se.same {K : PySem.W.Frag} {T' : List (Addr × Str)} {C sc M I p : Addr} {ns : List Int} {xs : List V} {pcs : List Pc} {pv : V} {a : PlA} {c : Nat} {H H' : Hp} (h : Se K T' C sc M I p ns xs pcs pv a c H) (e : Same H H') : Se K T' C sc M I p ns xs pcs pv a c H' :=
  ⟨h.fx.ext (.of (wo_mono e)), h.tabs.ext (wo_mono e), pool_same e h.pool, plV_s (wo_mono e) h.pl, h.ok⟩
theorem dct_ok {l : Pl} {n : Nat} (h : GenP l n) (hn : n ≤ 10) : PlOk (.dct l) ∧ ∀ (K : PySem.W.Frag) (G : Hp) (D : Addr), G D = some (.dK (plD l)) → PlV K G (.ref D) (.dct l) := by
  refine ⟨⟨by have := h.1; omega, h.2⟩, fun K G D hD => ⟨D, rfl, hD, by have := h.1; omega, fun q hq n e => ?_⟩⟩
  have o := (h.2 q hq).2
  rw [e] at o
  have o : n.natAbs < 10 ^ 12 := o
  exact Nat.lt_trans o (by decide)
theorem kit_no {K : PySem.W.Frag} : PySem.W.kitOne K (.type "NoneType") (.type "dict") = some false := by
  show kitB "NoneType" "dict" = some false
  decide +kernel
theorem kit_in {K : PySem.W.Frag} : PySem.W.kitOne K (.type "int") (.type "dict") = some false := by
  show kitB "int" "dict" = some false
  decide +kernel
theorem kit_li {K : PySem.W.Frag} : PySem.W.kitOne K (.type "list") (.type "dict") = some false := by
  show kitB "list" "dict" = some false
  decide +kernel
theorem kit_st {K : PySem.W.Frag} : PySem.W.kitOne K (.type "str") (.type "dict") = some false := by
  show kitB "str" "dict" = some false
  decide +kernel
section
variable {P : Program} {w : World} {K : PySem.W.Frag} {mg : Str → Option Value} {base : Heap} {C CN CO f c tw : Addr} {T' : List (Addr × Str)} {A : Around} {outer : List Env} {s : Shared} {H0 : Hp} {E : XK}
theorem s9 (L : TL P w K mg base C CN CO c tw T') (hr : Room 12 (XL P w K mg base f c A outer s H0 E).A) : ∃ t, PS (XL P w K mg base f c A outer s H0 E) (fb 9) t ∧ ∀ (D : Ends) (H : Hp) (sc p M I Dd : Addr) (ns : List Int) (xs : List V) (pcs : List Pc) (l : Pl) (cc : Nat) (o1 o4 o5 o6 o7 o8 o9 : Option V), Sd K T' C sc M I p Dd ns xs pcs l cc H → cc < 400 → GenP l 7 →
      (∀ H' l', Sd K T' C sc M I p Dd ns xs pcs l' (cc + 1) H' → GenP l' 8 → D.nx (sg sc o1 (some (.ref p)) (some (.ref M)) o4 o5 o6 o7 o8 o9 (some (.ref I)) (some (.ref Dd))) H') → t D (sg sc o1 (some (.ref p)) (some (.ref M)) o4 o5 o6 o7 o8 o9 (some (.ref I)) (some (.ref Dd))) H := by
  have hu := hu_of hr
  refine ⟨_, (ps_dput hu (pv 11) pe_str (pe_callH L.one (hr.mono (by decide)) (by rfl) pass0 (pa_cons (pv 2) (pa_cons (pe_lst (pa_cons pe_non (pa_cons pe_int pa_nil))) pa_nil))) rfl), ?_⟩
  intro D H sc p M I Dd ns xs pcs l cc o1 o4 o5 o6 o7 o8 o9 h hc gen q
  refine ⟨_, rfl, (by show 2 ≤ sizeLine; decide), fun a ha => ?_⟩
  have sa := same_new (o := .lst [V.non, V.int 5]) ha
  have ap : a ≠ p := pool_ne h.pool ha
  refine ⟨p, a, cc, _, rfl, pool_same sa h.pool, by omega, .inl (SqL.of upd_same), ap, (by show 0 < 2; decide), (by show 2 < 1000000; decide), fun v o hv pl1 => ?_⟩
  obtain ⟨cS, rfl, hcS⟩ : ∃ c : Sc, v = c.v ∧ ScOk c := by
    rcases List.mem_cons.mp hv with rfl | hv
    · exact ⟨.no, rfl, trivial⟩
    rcases List.mem_cons.mp hv with rfl | hv
    · exact ⟨.i 5, rfl, by show (5 : Int).natAbs < 10 ^ 12; decide⟩
    · cases hv
  have d1 : Dr p H (upd (upd H a (.lst [V.non, V.int 5])) p o) := fun b x hb e => by
    rw [upd_ne hb]
    exact sa _ _ e
  generalize upd (upd H a (.lst [V.non, V.int 5])) p o = H1 at d1 pl1 ⊢
  have h1 := h.dr d1 pl1
  have len := gen.1
  refine ⟨_, rfl, Dd, _, rfl, DPut.k (k := .inr "further") h1.dict (small1000 (by unfold plD; rw [List.length_map]; omega)), ?_⟩
  rw [← plD_set]
  exact q _ _ h1.put (gen.set (by decide +kernel) hcS)
theorem s10 (L : TL P w K mg base C CN CO c tw T') (hr : Room 12 (XL P w K mg base f c A outer s H0 E).A) : ∃ t, PS (XL P w K mg base f c A outer s H0 E) (fb 10) t ∧ ∀ (D : Ends) (H : Hp) (sc p M I Dd : Addr) (ns : List Int) (xs : List V) (pcs : List Pc) (l : Pl) (cc : Nat) (r : Int) (o1 o5 o6 o7 o8 o9 : Option V), Sd K T' C sc M I p Dd ns xs pcs l cc H → cc < 500 → GenP l 8 →
      (∀ H' pv a c', Se K T' C sc M I p ns xs pcs pv a c' H' → D.nx (sg sc o1 (some (.ref p)) (some (.ref M)) (some (.int r)) o5 o6 o7 o8 o9 (some (.ref I)) (some pv)) H') → t D (sg sc o1 (some (.ref p)) (some (.ref M)) (some (.int r)) o5 o6 o7 o8 o9 (some (.ref I)) (some (.ref Dd))) H := by
  have hu := hu_of hr
  refine ⟨_, (ps_if (pt_cmpR op_eq (pv 4) pe_int (nomark _)) (pss_one (ps_set (i := 11) scLaw.nd rfl (.inr rfl) (pe_callH L.one (hr.mono (by decide)) (by rfl) pass0 (pa_cons (pv 2) (pa_cons (pe_lst (pa_cons pe_non (pa_cons pe_int (pa_cons (pe_lst pa_nil) (pa_cons pe_str (pa_cons (pv 11) pa_nil)))))) pa_nil))))) pss_nil), ?_⟩
  intro D H sc p M I Dd ns xs pcs l cc r o1 o5 o6 o7 o8 o9 h hc gen q
  obtain ⟨g1, g2⟩ := dct_ok gen (by decide)
  refine ⟨_, rfl, rfl, _, rfl, ?_⟩
  rw [eq_int]
  by_cases hr0 : r = 3
  · rw [decide_eq_true hr0]
    refine iteT ⟨_, rfl, (by show 0 ≤ sizeLine; decide), fun e0 he0 => ⟨_, rfl, (by show 5 ≤ sizeLine; decide), fun a ha => ?_⟩⟩
    have s1 := same_new (o := .lst ([] : List V)) he0
    have s2 := same_new (o := .lst [V.non, V.int 5, V.ref e0, V.str "ab", V.ref Dd]) ha
    have e0p : e0 ≠ p := pool_ne h.pool he0
    have ap : a ≠ p := pool_ne (pool_same s1 h.pool) ha
    have he1 := s2 _ _ (show upd H e0 (.lst []) e0 = some (.lst []) from upd_same)
    refine ⟨p, a, cc, _, rfl, pool_same (s1.trans s2) h.pool, by omega, .inl (SqL.of upd_same), ap, (by show 0 < 5; decide), (by show 5 < 1000000; decide), fun v o hv pl1 => ?_⟩
    have d1 : Dr p H (upd (upd (upd H e0 (.lst [])) a (.lst [V.non, V.int 5, V.ref e0, V.str "ab", V.ref Dd])) p o) := fun b x hb e => by
      rw [upd_ne hb]
      exact s2 _ _ (s1 _ _ e)
    have he2 : upd (upd (upd H e0 (.lst [])) a (.lst [V.non, V.int 5, V.ref e0, V.str "ab", V.ref Dd])) p o e0 = some (.lst []) := by rw [upd_ne e0p]; exact he1
    generalize upd (upd (upd H e0 (.lst [])) a (.lst [V.non, V.int 5, V.ref e0, V.str "ab", V.ref Dd])) p o = H1 at d1 pl1 he2 ⊢
    have h1 := h.dr d1 pl1
    have mk : ∀ pa, PlV K (wo H1 p) v pa → PlOk pa → Se K T' C sc M I p ns xs pcs v pa (cc + 1) H1 := fun pa a b => ⟨h1.fx, h1.tabs, pl1, a, b⟩
    rcases List.mem_cons.mp hv with rfl | hv
    · exact q _ _ (.oth .none) _ (mk _ ⟨.non, kit_no⟩ (.inl rfl))
    rcases List.mem_cons.mp hv with rfl | hv
    · exact q _ _ (.oth (.int 5)) _ (mk _ ⟨.int 5, kit_in⟩ (.inr (.inl rfl)))
    rcases List.mem_cons.mp hv with rfl | hv
    · exact q _ _ (.oth (.list [])) _ (mk _ ⟨.lst (SqL.of (wo_at e0p he2)) .nil, kit_li⟩ (.inr (.inr (.inl rfl))))
    rcases List.mem_cons.mp hv with rfl | hv
    · exact q _ _ (.oth (.str "ab")) _ (mk _ ⟨.str "ab", kit_st⟩ (.inr (.inr (.inr rfl))))
    rcases List.mem_cons.mp hv with rfl | hv
    · exact q _ _ (.dct l) _ (mk _ (g2 K _ Dd (wo_at h.Dp h1.dict)) g1)
    · cases hv
  · rw [decide_eq_false hr0]
    exact iteF (q H _ (.dct l) cc ⟨h.fx, h.tabs, h.pool, g2 K _ Dd (wo_at h.Dp h.dict), g1⟩)
theorem s11 (L : TL P w K mg base C CN CO c tw T') (hr : Room 12 (XL P w K mg base f c A outer s H0 E).A) (hg : (XL P w K mg base f c A outer s H0 E).A.guards = some []) : ∃ t, PS (XL P w K mg base f c A outer s H0 E) (fb 11) t ∧ ∀ (D : Ends) (H : Hp) (sc p M I : Addr) (ns : List Int) (xs : List V) (pcs : List Pc) (pv : V) (a : PlA) (cc : Nat) (o1 o4 o5 o6 o7 o8 o9 : Option V), Se K T' C sc M I p ns xs pcs pv a cc H → Nms pcs →
      (∀ H' vd d, Se K T' C sc M I p ns xs pcs pv a cc H' → Dp K H' vd d → DueD a (q0 :: pcs) d → D.nx (sg sc o1 (some (.ref p)) (some (.ref M)) o4 o5 (some (.str (plText a))) (some vd) o8 o9 (some (.ref I)) (some pv)) H') → t D (sg sc o1 (some (.ref p)) (some (.ref M)) o4 o5 o6 o7 o8 o9 (some (.ref I)) (some pv)) H := by
  have hu := hr.un
  refine ⟨_, ps_par (by rfl) scLaw.nd (i := 6) (j := 7) rfl rfl (by decide) rfl rfl (pa_cons (pe_callB (call_repr_pl hg (by omega)) (by rfl) L.repr (by decide +kernel) (pa_cons (pv 11) pa_nil)) (pa_cons (pe_callH L.due (hr.mono (by decide)) (by rfl) pass0 (pa_cons (pv 3) (pa_cons (pv 11) pa_nil))) pa_nil)) (by rfl), ?_⟩
  intro D H sc p M I ns xs pcs pv a cc o1 o4 o5 o6 o7 o8 o9 h nm q
  refine ⟨_, rfl, pv, a, rfl, plV_s wo_sub h.pl, h.ok, _, rfl, _, rfl, M, pv, xs, q0 :: pcs, a, rfl, wo_sub _ _ h.fx.lst, eachs_imp (fun _ _ => pieceT_s (TupS.of wo_sub)) h.fx.each, nm.ok, by simp, plV_s wo_sub h.pl, fun vd d H' sH hd hdue => ?_⟩
  exact ⟨_, _, rfl, q H' vd d (h.same sH) hd hdue⟩
end
end DR

namespace DR
open PySem PySem.Spec PyProof.Rows L2
theorem ExtD.sqT {K : PySem.W.Frag} {G G' : Hp} (e : ExtD G G') {a : Addr} {xs : List V} (h : SqT K G a xs) : SqT K G' a xs :=
  h.imp (fun h => h.imp (fun h => e _ _ h (by intro x z; cases z) (by intro x z; cases z)) (fun ⟨o, h⟩ => ⟨o, e _ _ h (by intro x z; cases z) (by intro x z; cases z)⟩)) id
mutual
theorem dp_ext {K : PySem.W.Frag} {H H' : Hp} (e : ExtD H H') : ∀ {v : V} {d : PyData}, Dp K H v d → Dp K H' v d
  | _, _, .non => .non
  | _, _, .bl b => .bl b
  | _, _, .int i => .int i
  | _, _, .str x => .str x
  | _, _, .lst s a => .lst (e.sqL s) (dps_ext e a)
  | _, _, .tup s a => .tup (e.sqT s) (dps_ext e a)
theorem dps_ext {K : PySem.W.Frag} {H H' : Hp} (e : ExtD H H') : ∀ {vs : List V} {ds : List PyData}, DpAll K H vs ds → DpAll K H' vs ds
  | _, _, .nil => .nil
  | _, _, .cons h t => .cons (dp_ext e h) (dps_ext e t)
end
theorem wo_ext {H H' : Hp} {p : Addr} (e : LamX.ExtN H H') : LamX.ExtN (wo H p) (wo H' p) := fun b x h n => by
  have bp : b ≠ p := fun z => by
    rw [z] at h
    unfold wo at h
    rw [if_pos rfl] at h
    cases h
  rw [wo_ne bp] at h ⊢
  exact e b x h n
theorem tabs_wo {T : List (Addr × Str)} {H : Hp} {r : Addr} {c : Nat} (h : LamX.Tabs T H) (hr : Pool H r c) : LamX.Tabs T (wo H r) := fun p hp => by
  obtain ⟨_, _, _, hr, _⟩ := hr.ex
  obtain ⟨ps, h1, h2, h3⟩ := h p hp
  refine ⟨ps, ?_, h2, fun pos cv e => ?_⟩
  · exact wo_at (fun z => by rw [z, hr] at h1; cases h1) h1
  · obtain ⟨c, e1, e2⟩ := h3 pos cv e
    exact ⟨c, e1, wo_at (fun z => by rw [z, hr] at e2; cases e2) e2⟩
theorem Se.extN {K : PySem.W.Frag} {T' : List (Addr × Str)} {C sc M I p : Addr} {ns : List Int} {xs : List V} {pcs : List Pc} {pv : V} {a : PlA} {c : Nat} {H H' : Hp} (h : Se K T' C sc M I p ns xs pcs pv a c H) (e : LamX.ExtN H H') (t : LamX.Tabs T' H') : Se K T' C sc M I p ns xs pcs pv a c H' := by
  obtain ⟨x, y, z, e1, r⟩ := h.pool.ex
  have pl : Pool H' p c := ⟨x, y, z, e _ _ e1 (by intro x z; cases z), r⟩
  refine ⟨h.fx.ext (.ext (wo_ext e)), tabs_wo t pl, pl, ?_, h.ok⟩
  have hp := h.pl
  cases a with
  | oth d => exact ⟨dp_ext (.ext (wo_ext e)) hp.1, hp.2⟩
  | dct l =>
    obtain ⟨D, h1, h2, h3⟩ := hp
    exact ⟨D, h1, wo_ext e _ _ h2 (by intro x z; cases z), h3⟩
/-- what is met -/
def FoundV (K : PySem.W.Frag) (H : Hp) (vf pv : V) (a : PlA) (pcs : List Pc) : Prop :=
  (∃ t k x, vf = .ref t ∧ H t = some (.tup [.str k, x]) ∧ k ≠ ("told" : Str) ∧ ∀ d, DueD a pcs d → Dp K H vf d) ∨
  ∃ t F l, vf = .ref t ∧ H t = some (.tup [.str "told", .ref F]) ∧ H F = some (.dK (foundD l pcs)) ∧ a = .dct l ∧ plBad a pcs = none ∧ overOf (spotsOf l pcs) = none ∧ pv ≠ .ref F
section
variable {P : Program} {w : World} {K : PySem.W.Frag} {mg : Str → Option Value} {base : Heap} {C CN CO f c tw : Addr} {T' : List (Addr × Str)} {A : Around} {outer : List Env} {s : Shared} {H0 : Hp} {E : XK}
theorem s12 (L : TL P w K mg base C CN CO c tw T') (hr : Room 12 (XL P w K mg base f c A outer s H0 E).A) : ∃ t, PS (XL P w K mg base f c A outer s H0 E) (fb 12) t ∧ ∀ (D : Ends) (H : Hp) (sc p M I : Addr) (ns : List Int) (xs : List V) (pcs : List Pc) (pv vd : V) (a : PlA) (d0 : PyData) (cc : Nat) (o1 o4 o5 o6 o8 o9 : Option V), Se K T' C sc M I p ns xs pcs pv a cc H → Dp K H vd d0 →
      (∀ H' vf, Se K T' C sc M I p ns xs pcs pv a cc H' → Dp K H' vd d0 → FoundV K H' vf pv a (q0 :: pcs) → D.nx (sg sc o1 (some (.ref p)) (some (.ref M)) o4 o5 o6 (some vd) (some vf) o9 (some (.ref I)) (some pv)) H') → t D (sg sc o1 (some (.ref p)) (some (.ref M)) o4 o5 o6 (some vd) o8 o9 (some (.ref I)) (some pv)) H := by
  refine ⟨_, ps_set (i := 8) scLaw.nd rfl (.inl rfl) (pe_met (k := 8) L.met (by rfl) L.tb rfl L.hm L.hu (hr.mono (by decide)) (LamX.lamS_by (show LamX.lamSB (defScope sLaw) _ = true by decide +kernel)) rfl (fun _ _ _ _ _ => rfl) fun A outer s H E f c' hr => (pe_callH L.laid (hr.mono (by decide)) (by rfl) (passes_call (W := fun cls d _ H => E cls d H) (takes_of rfl rfl rfl rfl) (fun _ _ _ _ h => h)) (pa_cons (pv 10) (pa_cons (pv 11) pa_nil)))), ?_⟩
  intro D H sc p M I ns xs pcs pv vd a d0 cc o1 o4 o5 o6 o8 o9 h hd q
  refine ⟨h.tabs.ext wo_sub, fun H1 e1 t1 => ?_⟩
  have h1 := h.extN e1 t1
  have hd1 := dp_ext (.ext e1) hd
  refine ⟨_, rfl, _, rfl, I, pv, a, q0 :: pcs, rfl, imgV_s wo_sub h1.fx.img, plV_s wo_sub h1.pl, by simp, t1, fun qb hb H' dx s' hdx => ?_, fun l ea nb => ⟨fun sa ta ho H' dx s' hdx => ?_, fun no F H' e' t' hF0 hF => ?_⟩⟩
  · refine .inl ⟨dx, .str qb.1, rfl, rfl, upd_same, fun p3 hp3 => ?_⟩
    have s1 := same_new (o := .xd [("p", V.str qb.1)]) hdx
    have s2 := same_new (o := .tup [V.str "place", V.str qb.1]) hp3
    have s3 := s'.trans (s1.trans s2)
    refine q _ _ (h1.same s3) (dp_same s3 hd1) (.inl ⟨p3, "place", _, rfl, upd_same, by decide, fun d hdue => ?_⟩)
    cases hdue with
    | place q1 h1 =>
      obtain rfl : q1 = qb := Option.some.inj (h1.symm.trans hb)
      exact .tup (SqT.of upd_same) (.cons (.str _) (.cons (.str _) .nil))
    | over l s t _ h2 _ => rw [hb] at h2; cases h2
    | told l ds _ h2 _ _ _ => rw [hb] at h2; cases h2
  · refine .inr ⟨dx, .str sa.1, .str ta.1, rfl, rfl, upd_same, fun p1 p2 h1' h2' => ?_⟩
    have s1 := same_new (o := .xd [("q", V.str ta.1), ("p", V.str sa.1)]) hdx
    have s2 := same_new (o := .tup [V.str sa.1, V.str ta.1]) h1'
    have s4 := same_new (o := .tup [V.str "over", V.ref p1]) h2'
    have s3 := s'.trans (s1.trans (s2.trans s4))
    refine q _ _ (h1.same s3) (dp_same s3 hd1) (.inl ⟨p2, "over", _, rfl, upd_same, by decide, fun d hdue => ?_⟩)
    cases hdue with
    | place q1 h1 => rw [nb] at h1; cases h1
    | over l2 s2 t2 ea2 _ h3 =>
      rw [ea] at ea2
      cases ea2
      rw [ho] at h3
      cases h3
      exact .tup (SqT.of upd_same) (.cons (.str _) (.cons (.tup (SqT.of (s4 _ _ upd_same)) (.cons (.str _) (.cons (.str _) .nil))) .nil))
    | told l2 ds ea2 _ h3 _ _ =>
      rw [ea] at ea2
      cases ea2
      rw [ho] at h3
      cases h3
  · refine ⟨(by show 2 ≤ sizeLine; decide), fun p2 hp2 => ?_⟩
    have s2 := same_new (o := .tup [V.str "told", V.ref F]) hp2
    have h2 := (h1.extN e' t').same s2
    refine q _ _ h2 (dp_same s2 (dp_ext (.ext e') hd1)) (.inr ⟨p2, F, l, rfl, upd_same, s2 _ _ hF, ea, nb, no, fun z => ?_⟩)
    have hp := h1.pl
    rw [ea] at hp
    obtain ⟨D2, e3, e4, _⟩ := hp
    rw [e3] at z
    cases z
    have := wo_sub _ _ e4
    rw [hF0] at this
    cases this
end
end DR

namespace DR
open PySem PySem.Spec PyProof.Rows L2 LiI
theorem pairs_plain : ∀ cs : List (Int × Int), PyData.plainAll (cs.map pairI) = true ∧ PyData.depthAll (cs.map pairI) ≤ 2
  | [] => ⟨rfl, by simp [PyData.depthAll]⟩
  | c :: cs => by
    obtain ⟨a, b⟩ := pairs_plain cs
    rw [List.map_cons]
    refine ⟨by simp [PyData.plainAll, pairI, PyData.plain, a], ?_⟩
    rw [PyData.depthAll]
    refine Nat.max_le.mpr ⟨by simp [pairI, PyData.depth, PyData.depthAll], b⟩
theorem due_plain {a : PlA} {pcs : List Pc} {d : PyData} (h : DueD a pcs d) : d.plain = true ∧ d.depth ≤ 60 := by
  cases h with
  | place q _ => exact ⟨rfl, by simp [PyData.depth, PyData.depthAll]⟩
  | over l s t _ _ _ => exact ⟨rfl, by simp [PyData.depth, PyData.depthAll]⟩
  | told l ds _ _ _ _ _ =>
    obtain ⟨a, b⟩ := pairs_plain ds
    refine ⟨by simp [PyData.plain, PyData.plainAll, a], ?_⟩
    simp only [PyData.depth, PyData.depthAll]
    omega
theorem items_dp {K : PySem.W.Frag} {H : Hp} : ∀ {ts : List Addr} {cs : List (Int × Int)}, Paired (fun (t : Addr) (q : Key × V) => H t = some (.tup [kV q.1, q.2])) ts (cs.map cellE) → DpAll K H (ts.map V.ref) (cs.map pairI)
  | [], [], _ => .nil
  | t :: ts, c :: cs, .cons h r => .cons (.tup (SqT.of h) (.cons (.int _) (.cons (.int _) .nil))) (items_dp r)
section
variable {P : Program} {w : World} {K : PySem.W.Frag} {mg : Str → Option Value} {base : Heap} {C CN CO f c tw : Addr} {T' : List (Addr × Str)} {A : Around} {outer : List Env} {s : Shared} {H0 : Hp} {E : XK}
theorem s13 (L : TL P w K mg base C CN CO c tw T') (hr : Room 12 (XL P w K mg base f c A outer s H0 E).A) : ∃ t, PS (XL P w K mg base f c A outer s H0 E) (fb 13) t ∧ ∀ (D : Ends) (H : Hp) (sc p M I : Addr) (ns : List Int) (xs : List V) (pcs : List Pc) (pv vd vf : V) (a : PlA) (d0 : PyData) (cc : Nat) (o1 o4 o5 o6 o9 : Option V), Se K T' C sc M I p ns xs pcs pv a cc H → Dp K H vd d0 → DueD a (q0 :: pcs) d0 → FoundV K H vf pv a (q0 :: pcs) →
      (∀ H' vf' o9', Se K T' C sc M I p ns xs pcs pv a cc H' → Dp K H' vd d0 → Dp K H' vf' d0 → D.nx (sg sc o1 (some (.ref p)) (some (.ref M)) o4 o5 o6 (some vd) (some vf') o9' (some (.ref I)) (some pv)) H') → t D (sg sc o1 (some (.ref p)) (some (.ref M)) o4 o5 o6 (some vd) (some vf) o9 (some (.ref I)) (some pv)) H := by
  have hu := hu_of hr
  refine ⟨_, (ps_if (pt_cmpR op_eq (pe_ix ix_tup (pv 8) pe_int (fun _ _ => rfl)) pe_str (nomark _)) (pss_cons (ps_set (i := 9) scLaw.nd rfl (.inl rfl) (pe_listItems rfl (pe_ix ix_tup (pv 8) pe_int (fun _ _ => rfl)) (by rfl) L.bi.list (by decide +kernel)))
      (pss_cons (ps_dput hu (pe_ix ix_tup (pv 8) pe_int (fun _ _ => rfl)) pe_str pe_int rfl)
      (pss_cons (ps_set (i := 8) scLaw.nd rfl (.inl rfl) (pe_tup (pa_cons pe_str (pa_cons (pe_listItems rfl (pe_callH L.laid (hr.mono (by decide)) (by rfl) (passes_call (W := fun cls d _ H => E cls d H) (takes_of rfl rfl rfl rfl) (fun _ _ _ _ h => h)) (pa_cons (pv 10) (pa_cons (pv 11) pa_nil))) (by rfl) L.bi.list (by decide +kernel)) pa_nil))))
      (pss_one (ps_if (pt_cmpR (op_neP hr) (pe_ix ix_tup (pv 8) pe_int (fun _ _ => rfl)) (pv 9) (nomark _)) (pss_one (ps_ret pe_bl)) pss_nil))))) pss_nil), ?_⟩
  intro D H sc p M I ns xs pcs pv vd vf a d0 cc o1 o4 o5 o6 o9 h hd hdue hf q
  rcases hf with ⟨t, k, x, rfl, ht, hk, hall⟩ | ⟨t, F, l, rfl, ht, hF, ea, nb, no, pF⟩
  · refine ⟨_, rfl, t, _, _, _, rfl, rfl, SqT.of ht, at_of (i := 0) rfl, rfl, _, rfl, ?_⟩
    rw [show decide (V.str k = V.str "told") = false from decide_eq_false (fun z => hk (by injection z))]
    exact iteF (q H _ _ h hd (hall d0 hdue))
  · refine ⟨_, rfl, t, _, _, _, rfl, rfl, SqT.of ht, at_of (i := 0) rfl, rfl, true, by decide +kernel, ?_⟩
    have ecs := found_eq (l := l) (pcs := q0 :: pcs) no
    generalize hcs : (srt l (q0 :: pcs)).flatMap (cells l) = cs at ecs
    rw [ecs] at hF
    refine iteT ⟨_, rfl, t, _, _, _, rfl, rfl, SqT.of ht, at_of (i := 1) rfl, F, _, rfl, hF, fun H1 u ts s1 hu0 hts0 _ hu1 hts1 => ?_⟩
    have h1 := h.same s1
    have hd1 := dp_same s1 hd
    have dfirst : Dp K H1 (.ref u) (.list (cs.map pairI)) := .lst (SqL.of hu1) (items_dp hts1)
    have hF1 := s1 _ _ hF
    have lt : cs.length ≤ 100 := by
      have b := flat_le (l := l) 10 (srt l (q0 :: pcs)) fun q hq => (h.fx.img.1.each q (srt_mem hq)).few
      have few := h.fx.img.1.few
      rw [srt_len, hcs] at b
      omega
    refine ⟨_, rfl, t, _, _, _, rfl, rfl, SqT.of (s1 _ _ ht), at_of (i := 1) rfl, F, _, rfl, DPut.k (k := .inr "more") hF1 (small1000 (by rw [List.length_map]; omega)), ?_⟩
    have e2 : ExtD H1 (upd H1 F (.dK (putK (cs.map cellE) (.inr "more") (.int 5)))) := fun b x e n m => by
      rw [upd_ne (fun z => by
        rw [z, hF1] at e
        exact m _ (Option.some.inj e).symm)]
      exact e
    have k2 : ∀ b x, b ≠ F → H1 b = some x → upd H1 F (.dK (putK (cs.map cellE) (.inr "more") (.int 5))) b = some x := fun b x hb e => by rw [upd_ne hb]; exact e
    generalize upd H1 F (.dK (putK (cs.map cellE) (.inr "more") (.int 5))) = H2 at e2 k2 ⊢
    have hp := h1.pl
    rw [ea] at hp
    obtain ⟨Dd, rfl, hDd, hl9, hsz⟩ := hp
    have DF : Dd ≠ F := fun z => pF (by rw [z])
    have Dp' : Dd ≠ p := fun z => by
      rw [z] at hDd
      unfold wo at hDd
      rw [if_pos rfl] at hDd
      cases hDd
    have hDd1 := wo_sub _ _ hDd
    have hDd2 := k2 _ _ DF hDd1
    have pF2 : p ≠ F := fun z => by
      obtain ⟨_, _, _, e, _⟩ := h1.pool.ex
      rw [z, hF1] at e
      cases e
    have P2 : Pool H2 p cc := by
      obtain ⟨x, y, z, e, r⟩ := h1.pool.ex
      exact ⟨x, y, z, k2 _ _ pF2 e, r⟩
    have ew : ExtD (wo H1 p) (wo H2 p) := fun b x e n m => by
      have bp : b ≠ p := fun z => by
        rw [z] at e
        unfold wo at e
        rw [if_pos rfl] at e
        cases e
      rw [wo_ne bp] at e ⊢
      exact e2 b x e n m
    have T2 : LamX.Tabs T' H2 := tabs_dk (h1.tabs.ext wo_sub) fun b x e m => k2 b x (fun z => by
      rw [z, hF1] at e
      exact m _ (Option.some.inj e).symm) e
    have h2 : Se K T' C sc M I p ns xs pcs (.ref Dd) a cc H2 := by
      refine ⟨h1.fx.ext ew, tabs_wo T2 P2, P2, ?_, h1.ok⟩
      rw [ea]
      exact ⟨Dd, rfl, wo_at Dp' hDd2, hl9, hsz⟩
    refine ⟨_, rfl, _, rfl, I, .ref Dd, a, q0 :: pcs, rfl, imgV_s wo_sub h2.fx.img, plV_s wo_sub h2.pl, by simp, T2, (fun qb hb => by rw [nb] at hb; cases hb), fun l2 ea2 _ => ⟨fun sa ta ho => ?_, fun _ F2 H3 e3 t3 hF20 hF2 => ?_⟩⟩
    · rw [ea] at ea2
      cases ea2
      rw [no] at ho
      cases ho
    · rw [ea] at ea2
      cases ea2
      rw [ecs] at hF2
      have h3 := h2.extN e3 t3
      refine ⟨F2, _, rfl, hF2, fun H4 u2 ts2 s4 _ _ _ hu4 hts4 => ⟨(by show 2 ≤ sizeLine; decide), fun t5 ht5 => ?_⟩⟩
      have s5 := same_new (o := .tup [V.str "told", V.ref u2]) ht5
      have g5 : upd H4 t5 (.tup [V.str "told", V.ref u2]) t5 = some (.tup [V.str "told", V.ref u2]) := upd_same
      generalize upd H4 t5 (.tup [V.str "told", V.ref u2]) = H5 at s5 g5 ⊢
      have s4 : Same H3 H4 := s4
      have h5 := h3.same (s4.trans s5)
      have e15 : ExtD H1 H5 := (e2.trans (.ext e3)).trans (.of (s4.trans s5))
      have dsec : Dp K H5 (.ref u2) (.list (cs.map pairI)) := dp_same s5 (.lst (SqL.of hu4) (items_dp hts4))
      have dfirst5 := dp_ext e15 dfirst
      obtain ⟨pp, dd⟩ := pairs_plain cs
      have lp : (PyData.list (cs.map pairI)).plain = true := by simp [PyData.plain, pp]
      refine ⟨_, rfl, t5, _, _, _, rfl, rfl, SqT.of g5, at_of (i := 1) rfl, _, rfl, _, _, dsec, dfirst5, lp, lp, by simp only [PyData.depth]; omega, _, rfl, ?_⟩
      rw [SeqAt.eqv_refl_plain _ lp]
      refine iteF (q H5 _ _ h5 (dp_ext e15 hd1) ?_)
      cases hdue with
      | place q1 h1 => rw [nb] at h1; cases h1
      | over l2 s2 t2 ea2 _ h3 =>
        rw [ea] at ea2
        cases ea2
        rw [no] at h3
        cases h3
      | told l2 ds ea2 _ _ pm pw =>
        rw [ea] at ea2
        cases ea2
        rw [told_eq no pm pw, hcs]
        exact .tup (SqT.of g5) (.cons (.str _) (.cons dsec .nil))
theorem s14 (L : TL P w K mg base C CN CO c tw T') (hr : Room 12 (XL P w K mg base f c A outer s H0 E).A) (hg : (XL P w K mg base f c A outer s H0 E).A.guards = some []) : ∃ t, PS (XL P w K mg base f c A outer s H0 E) (fb 14) t ∧ ∀ (D : Ends) (H : Hp) (sc p M I : Addr) (ns : List Int) (xs : List V) (pcs : List Pc) (pv vd vf : V) (a : PlA) (d0 : PyData) (cc : Nat) (o1 o4 o5 o9 : Option V), Se K T' C sc M I p ns xs pcs pv a cc H → Dp K H vd d0 → Dp K H vf d0 → DueD a (q0 :: pcs) d0 →
      (D.nx (sg sc o1 (some (.ref p)) (some (.ref M)) o4 o5 (some (.str (plText a))) (some vd) (some vf) o9 (some (.ref I)) (some pv)) H) → t D (sg sc o1 (some (.ref p)) (some (.ref M)) o4 o5 (some (.str (plText a))) (some vd) (some vf) o9 (some (.ref I)) (some pv)) H := by
  have hu := hr.un
  refine ⟨_, (ps_if (PW.pt (pw_or (pt_cmpR (op_neP hr) (pv 8) (pv 7) (nomark _)) (pw_or1 (pt_cmpR op_ne (pe_callB (call_repr_pl hg (by omega)) (by rfl) L.repr (by decide +kernel) (pa_cons (pv 11) pa_nil)) (pv 6) (nomark _))))) (pss_one (ps_ret pe_bl)) pss_nil), ?_⟩
  intro D H sc p M I ns xs pcs pv vd vf a d0 cc o1 o4 o5 o9 h hd hf hdue q
  obtain ⟨pl, dp⟩ := due_plain hdue
  refine ⟨_, rfl, _, rfl, d0, d0, hf, hd, pl, pl, dp, _, rfl, ?_⟩
  rw [SeqAt.eqv_refl_plain _ pl]
  refine iteF ⟨_, rfl, pv, a, rfl, plV_s wo_sub h.pl, h.ok, _, rfl, rfl, false, by simp, ?_⟩
  exact q
end
end DR

namespace DR
open PySem PySem.Spec PyProof.Rows L2
section
variable {P : Program} {w : World} {K : PySem.W.Frag} {mg : Str → Option Value} {base : Heap} {C CN CO f c tw : Addr} {T' : List (Addr × Str)} {A : Around} {outer : List Env} {s : Shared} {H0 : Hp} {E : XK}
theorem law_go (L : TL P w K mg base C CN CO c tw T') (hr : Room 12 (XL P w K mg base f c A outer s H0 E).A) (hg : (XL P w K mg base f c A outer s H0 E).A.guards = some []) : ∃ t, PSs (XL P w K mg base f c A outer s H0 E) (defBody sLaw) t ∧ ∀ (H : Hp) (sc : Addr) (ns : List Int) (Q : VK), SqL K H sc (ns.map V.int) → LamX.Tabs T' H → (∀ H', Q (.bl true) H') →
      t { nx := fun _ H' => Q .non H', rt := Q } (start NL [.ref sc]) H := by
  obtain ⟨t0, h0, q0⟩ := s0 (P := P) (w := w) (K := K) (mg := mg) (base := base) (T' := T') (E := E) (A := A) (outer := outer) (s := s) (H0 := H0) (f := f) (c := c) L hr
  obtain ⟨t1, h1, q1⟩ := s1 (P := P) (w := w) (K := K) (mg := mg) (base := base) (T' := T') (E := E) (A := A) (outer := outer) (s := s) (H0 := H0) (f := f) (c := c) L hr
  obtain ⟨t2, h2, q2⟩ := s2 (P := P) (w := w) (K := K) (mg := mg) (base := base) (T' := T') (E := E) (A := A) (outer := outer) (s := s) (H0 := H0) (f := f) (c := c) L hr
  obtain ⟨t3, h3, q3⟩ := s3 (P := P) (w := w) (K := K) (mg := mg) (base := base) (T' := T') (E := E) (A := A) (outer := outer) (s := s) (H0 := H0) (f := f) (c := c) L hr
  obtain ⟨t4, h4, q4⟩ := s4 (P := P) (w := w) (K := K) (mg := mg) (base := base) (T' := T') (E := E) (A := A) (outer := outer) (s := s) (H0 := H0) (f := f) (c := c) L hr
  obtain ⟨t5, h5, q5⟩ := s5 (P := P) (w := w) (K := K) (mg := mg) (base := base) (T' := T') (E := E) (A := A) (outer := outer) (s := s) (H0 := H0) (f := f) (c := c) L hr
  obtain ⟨t6, h6, q6⟩ := s6 (P := P) (w := w) (K := K) (mg := mg) (base := base) (T' := T') (E := E) (A := A) (outer := outer) (s := s) (H0 := H0) (f := f) (c := c) L hr
  obtain ⟨t7, h7, q7⟩ := s7 (P := P) (w := w) (K := K) (mg := mg) (base := base) (T' := T') (E := E) (A := A) (outer := outer) (s := s) (H0 := H0) (f := f) (c := c) L hr
  obtain ⟨t8, h8, q8⟩ := s8 (P := P) (w := w) (K := K) (mg := mg) (base := base) (T' := T') (E := E) (A := A) (outer := outer) (s := s) (H0 := H0) (f := f) (c := c) L hr
  obtain ⟨t9, h9, q9⟩ := s9 (P := P) (w := w) (K := K) (mg := mg) (base := base) (T' := T') (E := E) (A := A) (outer := outer) (s := s) (H0 := H0) (f := f) (c := c) L hr
  obtain ⟨t10, h10, q10⟩ := s10 (P := P) (w := w) (K := K) (mg := mg) (base := base) (T' := T') (E := E) (A := A) (outer := outer) (s := s) (H0 := H0) (f := f) (c := c) L hr
  obtain ⟨t11, h11, q11⟩ := s11 (P := P) (w := w) (K := K) (mg := mg) (base := base) (T' := T') (E := E) (A := A) (outer := outer) (s := s) (H0 := H0) (f := f) (c := c) L hr hg
  obtain ⟨t12, h12, q12⟩ := s12 (P := P) (w := w) (K := K) (mg := mg) (base := base) (T' := T') (E := E) (A := A) (outer := outer) (s := s) (H0 := H0) (f := f) (c := c) L hr
  obtain ⟨t13, h13, q13⟩ := s13 (P := P) (w := w) (K := K) (mg := mg) (base := base) (T' := T') (E := E) (A := A) (outer := outer) (s := s) (H0 := H0) (f := f) (c := c) L hr
  obtain ⟨t14, h14, q14⟩ := s14 (P := P) (w := w) (K := K) (mg := mg) (base := base) (T' := T') (E := E) (A := A) (outer := outer) (s := s) (H0 := H0) (f := f) (c := c) L hr hg
  refine ⟨_, pss_cons (ps_for (passes_of rfl) rfl (pi_range1 (by rfl) L.bi.range (pa_cons pe_int pa_nil)) (pg_name (i := 1) scLaw.nd rfl (.inl rfl)) (pss_cons h0 (pss_cons h1 (pss_cons h2 (pss_cons h3 (pss_cons h4 (pss_cons h5 (pss_cons h6 (pss_cons h7 (pss_cons h8 (pss_cons h9 (pss_cons h10 (pss_cons h11 (pss_cons h12 (pss_cons h13 (pss_one h14)))))))))))))))) (pss_one (ps_ret pe_bl)), ?_⟩
  intro H sc ns Q hs hT q
  refine ⟨6, rfl, by decide, by decide, ?_⟩
  refine for_it walk_range (fun i σ H4 => ∃ (o1 o2 o3 o4 o5 o6 o7 o8 o9 o10 o11 : Option V), σ = sg sc o1 o2 o3 o4 o5 o6 o7 o8 o9 o10 o11 ∧ SqL K H4 sc (ns.map V.int) ∧ LamX.Tabs T' H4)
    ⟨none, none, none, none, none, none, none, none, none, none, none, rfl, hs, hT⟩ (fun _ _ _ _ _ => trivial) ?_ ?_
  · rintro i x σ Ha Hb hi ⟨o1, o2, o3, o4, o5, o6, o7, o8, o9, o10, o11, rfl, hs4, hT4⟩ ⟨rfl, rfl⟩
    have ez : (0 : Int) + (i : Int) = (i : Int) := by omega
    show (tSeq t0 _) _ (sg sc (some (.int (0 + (i : Int)))) o2 o3 o4 o5 o6 o7 o8 o9 o10 o11) _
    rw [ez]
    refine q0 _ _ sc ns i _ _ _ _ _ _ _ _ _ _ hs4 hT4 fun H1 p sc1 tb1 pl1 => ?_
    refine q1 _ H1 sc p ns _ _ _ _ _ _ _ _ _ _ sc1 tb1 pl1 fun H2 M xs pcs c2 sc2 tb2 pl2 hc2 Mp hM each nm => ?_
    refine q2 _ H2 sc p M ns xs pcs c2 _ _ _ _ _ _ _ _ _ sc2 tb2 pl2 Mp hM each nm fun H3 I fx3 tb3 pl3 => ?_
    refine q3 _ H3 sc p M I ns xs pcs c2 _ _ _ _ _ _ _ _ fx3 tb3 pl3 hc2 nm fun H4 Dd l c4 sd4 hc4 gen full => ?_
    refine q4 _ H4 sc p M I Dd ns xs pcs l c4 _ _ _ _ _ _ _ sd4 hc4 nm fun H5 r z sd5 hz => ?_
    obtain ⟨zq, hzq, hze⟩ := hz
    have hzk : z ∈ allK := by
      rw [← hze]
      exact nms_all nm zq hzq
    refine q5 _ H5 sc p M I Dd ns xs pcs l (c4 + 2) r z _ _ _ _ _ sd5 (by omega) hzk gen full fun H6 l6 c6 sd6 hc6 gen6 full6 => ?_
    refine q6 _ H6 sc p M I Dd ns xs pcs l6 c6 r z _ _ _ _ _ sd6 (by omega) hzk gen6 full6 nm fun H7 l7 c7 sd7 hc7 gen7 => ?_
    refine q7 _ H7 sc p M I Dd ns xs pcs l7 c7 r z _ _ _ _ _ sd7 gen7 fun H8 D8 l8 sd8 gen8 => ?_
    refine q8 _ H8 sc p M I D8 ns xs pcs l8 c7 r z _ _ _ _ _ sd8 gen8 fun H9 D9 l9 sd9 gen9 => ?_
    refine q9 _ H9 sc p M I D9 ns xs pcs l9 c7 _ _ _ _ _ _ _ sd9 (by omega) gen9 fun H10 l10 sd10 gen10 => ?_
    refine q10 _ H10 sc p M I D9 ns xs pcs l10 (c7 + 1) r _ _ _ _ _ _ sd10 (by omega) gen10 fun H11 pv a c11 se11 => ?_
    refine q11 _ H11 sc p M I ns xs pcs pv a c11 _ _ _ _ _ _ _ se11 nm fun H12 vd d0 se12 hd12 hdue => ?_
    refine q12 _ H12 sc p M I ns xs pcs pv vd a d0 c11 _ _ _ _ _ _ se12 hd12 fun H13 vf se13 hd13 hf13 => ?_
    refine q13 _ H13 sc p M I ns xs pcs pv vd vf a d0 c11 _ _ _ _ _ se13 hd13 hdue hf13 fun H14 vf' o9' se14 hd14 hf14 => ?_
    refine q14 _ H14 sc p M I ns xs pcs pv vd vf' a d0 c11 _ _ _ _ se14 hd14 hf14 hdue ?_
    exact ⟨_, _, _, _, _, _, _, _, _, _, _, rfl, sqL_same wo_sub se14.fx.script, se14.tabs.ext wo_sub⟩
  · rintro σ H4 ⟨o1, o2, o3, o4, o5, o6, o7, o8, o9, o10, o11, rfl, _, _⟩
    exact q H4
end
/-! ### the law's call, at the very caller -/
theorem law_here {P : Program} {w : World} {K : PySem.W.Frag} {mg : Str → Option Value} {base : Heap} {C CN CO f c tw : Addr} {fd : FuncData} {T' : List (Addr × Str)} {s : Shared} {H : Hp} {a : Addr} {ns : List Int} (F : FunM K "law" "law" sLaw c f fd) (L : TL P w K mg base C CN CO c tw T') (hr : Room 13 callerA) (e0 : Env0 P w K mg base callerA [] s H)
    (hs : SqL K H a (ns.map V.int)) (hT : LamX.Tabs T' H) : codeAny (model P w) callerA (.call (.ref f) ⟨[.ref a], []⟩) (CR (L2.CX P w) [] P w H s (fun v _ => v = .bl true) fun _ _ _ => False) s := by
  have hb := F.fn.binds (ps := ["script"]) fun _ _ _ _ _ _ us hl => match us, hl with | [_], _ => rfl
  have KX : K.In s.heap := e0.mod.kin.keeps fun b o e => (e0.bs b o e).1
  obtain ⟨oc, od, kV, doc, pm, an, ct, osl, rfl, lk, hcd⟩ := F.ex
  refine LamX.run_ofS (k := 12) (N := NL) (ps := ["script"]) (us := [.ref a]) (vs := [.ref a]) lk hcd scLaw hr e0 (hb s [.ref a] KX rfl) (.cons rfl .nil) rfl fun hr' => ?_
  obtain ⟨t, h1, h2⟩ := law_go (s := s) (H0 := H) (A := callerA) (outer := []) (f := f) (c := c) (E := fun _ _ _ => False) L hr' rfl
  exact ⟨t, h1, h2 H a ns (fun v _ => v = V.bl true) hs hT fun _ => rfl⟩
end DR

namespace DR
open PySem PySem.Spec PyProof.Rows L2
/-! ### the head: what the top leaves -/
def dd (x : Str) (i : Nat) : He.DefD := ⟨(x, none), x, x, defArgs (topS i), defBody (topS i), defScope (topS i), [], []⟩
def fns : List He.DefD := [dd "is_integer" 10, dd "is_row" 11, dd "is_row_of" 12, dd "is_name" 13, dd "read_address" 14, dd "read_unknown" 17, dd "order_of" 18, dd "one_form" 19, dd "read_sum" 20, dd "worth_at" 21, dd "read_piece" 23, dd "read_pieces" 24, dd "words_of" 25, dd "kinds_of" 27, dd "check_words" 29, dd "check_places" 31, dd "check_overs" 32, dd "laid" 33, dd "_law_cell" 35, dd "_law_pool" 36, dd "_law_take" 37, dd "_law_one" 38, dd "_law_mixed" 39, dd "_law_key" 40, dd "_law_total" 41, dd "_law_worth" 42, dd "_law_apart" 43, dd "_law_pieces" 44, dd "_law_met" 45, dd "_law_due" 46, dd "law" 47, ⟨("Image", some "__init__"), "__init__", "Image.__init__", defArgs sImg, defBody sImg, defScope sImg, [], []⟩, ⟨("Image", some "pieces"), "pieces", "Image.pieces", defArgs sPieces, defBody sPieces, defScope sPieces, [], []⟩, ⟨("NoPlace", some "__init__"), "__init__", "NoPlace.__init__", defArgs sIniN, defBody sIniN, defScope sIniN, [], []⟩, ⟨("Over", some "__init__"), "__init__", "Over.__init__", defArgs sIniO, defBody sIniO, defScope sIniO, [], []⟩]
def fas : List He.Fa := [.glo "is_integer", .glo "is_row", .glo "is_row_of", .glo "is_name", .glo "read_address", .glo "read_unknown", .glo "order_of", .glo "one_form", .glo "read_sum", .glo "worth_at", .glo "read_piece", .glo "read_pieces", .glo "words_of", .glo "kinds_of", .glo "check_words", .glo "check_places", .glo "check_overs", .glo "laid", .glo "_law_cell", .glo "_law_pool", .glo "_law_take", .glo "_law_one", .glo "_law_mixed", .glo "_law_key", .glo "_law_total", .glo "_law_worth", .glo "_law_apart", .glo "_law_pieces", .glo "_law_met", .glo "_law_due", .glo "law", .glo "NoPlace", .glo "Over", .glo "Image", .glo "RANKS", .free "len", .free "int", .free "str", .free "bool", .free "list", .free "tuple", .free "isinstance", .free "all", .free "sorted", .free "range", .free "enumerate", .free "zip", .free "dict", .free "min", .free "set", .free "sum", .free "any", .free "max", .free "repr", .str "LETTERS" lettersS, .exm "NoPlace" "NoPlace" true, .meth "NoPlace" "__init__", .noat "NoPlace" "p", .exm "Over" "Over" true, .meth "Over" "__init__", .noat "Over" "p", .noat "Over" "q", .exm "Over" "NoPlace" false, .meth "Image" "__init__", .meth "Image" "pieces", .noat "Image" "parts", .noat "Image" "sums", .noat "Image" "first", .cls "Image", .mkr "Image"]
def tabs : List He.Tab := [(fun K => He.ga K "RANKS", ["piece", "name", "in"])]
def tfs : List He.Defn := [("laid", none), ("law", none)]
/-- an own error class over ValueError -/
def oexB (K : PySem.W.Frag) (C : Addr) : Bool := (match K.lookup C with
  | some ⟨.type c, _, .cls z, sl⟩ => decide (c = "type") && (match z.mro, sl.toList with
    | .ref C1 :: m1, [_, _, _, _, some (.builtin b1), _] => decide (C1 = C) && (decide (b1 = "ValueError.__new__") && (!z.hasDel && (z.hasDict && PySem.HandSPX.refsVE m1)))
    | _, _ => false)
  | _ => false) && (He.eqO (PySem.W.findIn K (.ref C) "__setattr__") (some (some (.builtin "object.__setattr__"))) && (decide (PySem.W.subIn K (.ref C) (.type "BaseException") = some true) && (decide (PySem.W.typeIn K (.ref C) = some (.type "type")) && PySem.W.keepIn K (.ref C))))
def ranksL : List (Str × He.Dv) := [("piece", .int 0), ("name", .int 1), ("in", .int 2)]
def exs (K : PySem.W.Frag) : Bool := oexB K (He.ga K "NoPlace") && (xfB K (He.ga K "NoPlace") && (oexB K (He.ga K "Over") && (xfB K (He.ga K "Over") && (He.valsB K (He.ga K "RANKS") ranksL && (decide ((He.cT K ("laid", none)).2 ≠ (He.cT K ("law", none)).2))))))
abbrev RR : PySem.W.OpenRow := PySem.W.OpenLaw.row PySem.Challenge.rw_loadanywhere_k04_words_laid
abbrev hkk : PySem.W.Hook := He.hookX 5 fas fns tabs tfs exs
def obb (s : PySem.W.SharedT) : He.AlX := He.obsX 5 fas fns tabs tfs exs (HandSHeadRun.getT s)
theorem obb_eq (s : PySem.W.SharedT) : obb s = hkk.obs s.abs := He.obsX_eq (HandSHeadRun.getT_eq s)
abbrev loosL : List Str := (["WordError", "BadPiece", "BadWord", "BadStart", "NoWord", "NoPlace", "Over", "LETTERS", "is_integer", "is_row", "is_row_of", "is_name", "read_address", "RANKS", "read_unknown", "order_of", "one_form", "read_sum", "worth_at", "read_piece", "read_pieces", "words_of", "word_at", "kinds_of", "check_words", "Image", "check_places", "check_overs", "laid", "_law_cell"] : List Str) ++ (["_law_pool", "_law_take", "_law_one", "_law_mixed", "_law_key", "_law_total", "_law_worth", "_law_apart", "_law_pieces", "_law_met", "_law_due"] : List Str)
theorem run_false (w : World) : HandSHeadRun.RunEq RR (PySem.W.view RR.prog [47]) hkk obb 6000 loosL (w.withFollow "special-get-raises" false) := by
  intro os
  kernel_rfl
theorem run_true (w : World) : HandSHeadRun.RunEq RR (PySem.W.view RR.prog [47]) hkk obb 6000 loosL (w.withFollow "special-get-raises" true) := by
  intro os
  kernel_rfl
theorem runL (w : World) : HandSHeadRun.RunEq RR (PySem.W.view RR.prog [47]) hkk obb 6000 loosL w :=
  PySem.W.byRow2 "special-get-raises" (P := fun w => HandSHeadRun.RunEq RR (PySem.W.view RR.prog [47]) hkk obb 6000 loosL w) run_false run_true w
end DR

namespace DR
open PySem PySem.Spec PyProof.Rows L2
/-! ### the facts -/
theorem bb {a b : Bool} (h : (a && b) = true) : a = true ∧ b = true := by simpa using h
theorem oexB_ok {K : PySem.W.Frag} {C : Addr} (h : oexB K C = true) : OexC K C := by
  unfold oexB at h
  obtain ⟨h1, h⟩ := bb h
  obtain ⟨h2, h⟩ := bb h
  obtain ⟨h3, h⟩ := bb h
  obtain ⟨h4, h5⟩ := bb h
  refine ⟨?_, He.eqO_ok h2, of_decide_eq_true h3, of_decide_eq_true h4, h5⟩
  split at h1
  · rename_i cn od z sl hl
    obtain ⟨h6, h7⟩ := bb h1
    obtain rfl := of_decide_eq_true h6
    split at h7
    · rename_i C1 m1 k0 k1 k2 k3 b1 k5 hm hs
      obtain ⟨h8, h7⟩ := bb h7
      obtain ⟨h9, h7⟩ := bb h7
      obtain ⟨ha, h7⟩ := bb h7
      obtain ⟨hb, hc⟩ := bb h7
      obtain rfl := of_decide_eq_true h8
      obtain rfl := of_decide_eq_true h9
      obtain ⟨z1, z2, z3, z4, z5, z6, z7, z8, z9, za, zb⟩ := z
      dsimp only at hm ha hb
      subst hm
      have ha2 : zb = false := by simpa using ha
      subst ha2
      subst hb
      have hsl : sl = #[k0, k1, k2, k3, some (.builtin "ValueError.__new__"), k5] := by
        obtain ⟨l⟩ := sl
        simp only at hs
        rw [hs]
      rw [hsl] at hl
      exact ⟨_, _, _, _, _, _, _, _, _, _, _, _, _, _, _, hl, hc⟩
    · cases h7
  · cases h1
theorem fun_of {K : PySem.W.Frag} {x q : Str} {st : Stmt} {f : Addr} {fd : FuncData} (F : FunD K x q (defArgs st) (defBody st) (defScope st) [] [] f fd) : Fun K x q st f fd := by
  obtain ⟨oc, od, dV, kV, doc, pm, an, cdv, ct, osl, e, lk, hc, hD, hK⟩ := F.ex
  rcases hD with ⟨_, rfl⟩ | ⟨z, _⟩
  · exact ⟨⟨oc, od, kV, doc, pm, an, cdv, ct, osl, e, lk, hc⟩, F.kp⟩
  · exact absurd rfl z
theorem funM_of {K : PySem.W.Frag} {x q : Str} {st : Stmt} {p : Str × Option Str} {fd : FuncData} (F : FunD K x q (defArgs st) (defBody st) (defScope st) [] [] (He.fAd K p) fd) : FunM K x q st (He.cT K p).1 (He.fAd K p) fd := by
  obtain ⟨oc, od, dV, kV, doc, pm, an, cdv, ct, osl, e, lk, hc, hD, hK⟩ := F.ex
  rcases hD with ⟨_, rfl⟩ | ⟨z, _⟩
  · obtain ⟨c, rfl⟩ := He.codeIn_ref hc
    have ec : (He.cT K p).1 = c := He.codeOf_eq lk (by rw [e])
    rw [ec]
    exact ⟨⟨oc, od, kV, doc, pm, an, ct, osl, e, lk, hc⟩, F.kp⟩
  · exact absurd rfl z
theorem has_of {P : Program} {w : World} {K : PySem.W.Frag} {mg : Str → Option Value} {base : Heap} {CX : CXT} {k : Nat} {x : Str} {ps : List Str} {sp : Sp} {f : Addr} {fd : FuncData} (g : mg x = some (.ref f)) (kp : PySem.W.keepIn K (.ref f) = true) (b : Binds K fd ps []) (o : FnOk P w K mg base CX k f fd ps sp) : Has P w K mg base CX k x ps sp :=
  ⟨⟨f, fd, g, kp, b, o⟩⟩
theorem keys_find {P : Params} {z : Str} : ∀ {l : List DictEntry} {ks : List Str}, l.map He.keyOf = He.keysIn P ks → z ∉ ks → l.find? (·.key.isStr z) = none ∧ l.any (·.refKey) = false
  | [], _, _, _ => ⟨rfl, rfl⟩
  | e :: r, [], h, _ => by cases h
  | e :: r, k :: ks, h, hz => by
    have h1 : He.keyOf e :: r.map He.keyOf = some (k, PyData.keyHash P k) :: He.keysIn P ks := h
    injection h1 with h2 h3
    obtain ⟨i1, i2⟩ := keys_find h3 (fun m => hz (List.mem_cons_of_mem _ m))
    obtain ⟨eh, ek, ev⟩ := e
    unfold He.keyOf at h2
    dsimp only at h2
    cases ek with
    | str x t =>
      have h4 : (x, eh) = (k, PyData.keyHash P k) := Option.some.inj h2
      have h5 : x = k := congrArg Prod.fst h4
      subst h5
      have nz : (x == z) = false := by
        rw [beq_eq_false_iff_ne]
        intro q
        exact hz (by rw [← q]; exact List.mem_cons_self ..)
      constructor
      · rw [List.find?_cons]
        have e1 : Value.isStr (.str x t) z = false := nz
        show (match Value.isStr (.str x t) z with | true => some _ | false => r.find? _) = none
        rw [e1]
        exact i1
      · rw [List.any_cons, i2]
        rfl
    | _ => cases h2
theorem ns_no {K : PySem.W.Frag} {w : World} {a : Addr} {ks : List Str} (h : He.dicW K a = some (He.keysIn w.params ks)) {z : Str} (hz : z ∉ ks) : PySem.W.nsIn K a z = some none := by
  unfold He.dicW at h
  cases q : K.lookup a with
  | none => rw [q] at h; cases h
  | some o =>
    obtain ⟨oc, od, dt, osl⟩ := o
    rw [q] at h
    cases oc with
    | type c =>
      cases od with
      | none =>
        cases dt with
        | dict es n =>
          have h1 : (match decide (c = "dict") && (osl.isEmpty && !(a == sysModules)) with
            | true => some (es.toList.map He.keyOf)
            | false => none) = some (He.keysIn w.params ks) := h
          split at h1
          · obtain ⟨f1, f2⟩ := keys_find (Option.some.inj h1) hz
            unfold PySem.W.nsIn
            rw [q]
            dsimp only
            rw [f1, f2]
            rfl
          · cases h1
        | _ => cases h
      | some b => cases dt <;> cases h
    | _ => cases od <;> cases dt <;> cases h
theorem rank_some {z : Str} {i : Int} (h : rank z = some i) : (z, He.Dv.int i) ∈ ranksL := by
  unfold rank at h
  split at h
  · rename_i e; cases h; rw [e]; exact List.mem_cons_self ..
  · split at h
    · rename_i e; cases h; rw [e]; exact List.mem_cons_of_mem _ (List.mem_cons_self ..)
    · split at h
      · rename_i e; cases h; rw [e]; exact List.mem_cons_of_mem _ (List.mem_cons_of_mem _ (List.mem_cons_self ..))
      · cases h
theorem rank_none {z : Str} (h : rank z = none) : z ∉ (["piece", "name", "in"] : List Str) := by
  unfold rank at h
  split at h
  · cases h
  · split at h
    · cases h
    · split at h
      · cases h
      · rename_i a b c
        intro m
        rcases List.mem_cons.mp m with m | m
        · exact a m
        · rcases List.mem_cons.mp m with m | m
          · exact b m
          · exact c (List.mem_singleton.mp m)
section
variable {w : World} {K : PySem.W.Frag} {mg : Str → Option Value} {h : Heap}
theorem dics_of (c : He.SaysX fas fns tabs tfs exs w h K) : He.dicW K (He.ga K "RANKS") = some (He.keysIn w.params ["piece", "name", "in"]) := by
  have e : tabs.map (fun t => He.dicW K (t.1 K)) = tabs.map fun t => some (He.keysIn w.params t.2) := congrArg (fun z : He.AlT => z.2) c.t
  have z : [He.dicW K (He.ga K "RANKS")] = [some (He.keysIn w.params ["piece", "name", "in"])] := e
  injection z with z1 z
theorem ranks_of (X : K.In h) (G : h.Ns mainGlobals mg) (c : He.SaysX fas fns tabs tfs exs w h K) (v : He.valsB K (He.ga K "RANKS") ranksL = true) : Ranks K w mg (He.ga K "RANKS") := by
  have e2 := dics_of c
  refine ⟨He.glo_ok X G (c.t.d.fact 34 (f := .glo "RANKS") rfl), He.dicW_ok e2, fun z i hz => ?_, fun z hz => ns_no e2 (rank_none hz)⟩
  obtain ⟨u, h1, h2⟩ := He.valsB_ok v (rank_some hz)
  obtain ⟨t, rfl⟩ := (show ∃ t, u = Value.int i t from h2)
  exact ⟨t, h1⟩
theorem bi_of (X : K.In h) (G : h.Ns mainGlobals mg) (c : He.SaysD fas fns K) : Bi mg :=
  ⟨He.free_ok X G (c.fact 35 (f := .free "len") rfl), He.free_ok X G (c.fact 36 (f := .free "int") rfl), He.free_ok X G (c.fact 37 (f := .free "str") rfl), He.free_ok X G (c.fact 38 (f := .free "bool") rfl), He.free_ok X G (c.fact 39 (f := .free "list") rfl), He.free_ok X G (c.fact 40 (f := .free "tuple") rfl), He.free_ok X G (c.fact 41 (f := .free "isinstance") rfl), He.free_ok X G (c.fact 42 (f := .free "all") rfl), He.free_ok X G (c.fact 43 (f := .free "sorted") rfl), He.free_ok X G (c.fact 44 (f := .free "range") rfl), He.free_ok X G (c.fact 45 (f := .free "enumerate") rfl), He.free_ok X G (c.fact 46 (f := .free "zip") rfl), He.free_ok X G (c.fact 47 (f := .free "dict") rfl), He.free_ok X G (c.fact 48 (f := .free "min") rfl), He.free_ok X G (c.fact 49 (f := .free "set") rfl)⟩
end
abbrev cA (K : PySem.W.Frag) : Addr × Addr := He.cT K ("laid", none)
abbrev cW (K : PySem.W.Frag) : Addr × Addr := He.cT K ("law", none)
abbrev TT (K : PySem.W.Frag) : List (Addr × Str) := [((cA K).2, qLaid), ((cW K).2, qLaw)]
theorem huA {K : PySem.W.Frag} (ne : (cA K).2 ≠ (cW K).2) : ∀ p ∈ TT K, p.1 = (cA K).2 → p.2 = qLaid := fun p hp e => by
  rcases List.mem_cons.mp hp with rfl | hp
  · rfl
  · obtain rfl := List.mem_singleton.mp hp
    exact absurd e.symm ne
theorem huW {K : PySem.W.Frag} (ne : (cA K).2 ≠ (cW K).2) : ∀ p ∈ TT K, p.1 = (cW K).2 → p.2 = qLaw := fun p hp e => by
  rcases List.mem_cons.mp hp with rfl | hp
  · exact absurd e ne
  · obtain rfl := List.mem_singleton.mp hp
    rfl
theorem facts {P : Program} {w : World} {K : PySem.W.Frag} {mg : Str → Option Value} {h : Heap} (X : K.In h) (G : h.Ns mainGlobals mg) (c : He.SaysX fas fns tabs tfs exs w h K) :
    ∃ fd : FuncData, FunM K "law" "law" sLaw (cW K).1 (He.ga K "law") fd ∧ ∀ base : Heap, K.In base → base.Ns mainGlobals mg → LamX.TabB base mg (cA K).1 (cA K).2 → LamX.TabB base mg (cW K).1 (cW K).2 →
      TL P w K mg base (He.ga K "Image") (He.ga K "NoPlace") (He.ga K "Over") (cW K).1 (cW K).2 (TT K) := by
  obtain ⟨x1, hx⟩ := bb c.more
  obtain ⟨x2, hx⟩ := bb hx
  obtain ⟨x3, hx⟩ := bb hx
  obtain ⟨x4, hx⟩ := bb hx
  obtain ⟨x5, x6⟩ := bb hx
  have T := bi_of X G c.t.d
  have R := ranks_of X G c x5
  have NE : (cA K).2 ≠ (cW K).2 := of_decide_eq_true x6
  obtain ⟨tLet, gLet⟩ := He.str_ok X G (c.t.d.fact 54 (f := .str "LETTERS" lettersS) rfl)
  have TRep : mg "repr" = none := He.free_ok X G (c.t.d.fact 53 (f := .free "repr") rfl)
  have TS : mg "sum" = none := He.free_ok X G (c.t.d.fact 50 (f := .free "sum") rfl)
  have TA : mg "any" = none := He.free_ok X G (c.t.d.fact 51 (f := .free "any") rfl)
  have TM : mg "max" = none := He.free_ok X G (c.t.d.fact 52 (f := .free "max") rfl)
  have gN : mg "NoPlace" = some (.ref (He.ga K "NoPlace")) := He.glo_ok X G (c.t.d.fact 31 (f := .glo "NoPlace") rfl)
  have gO : mg "Over" = some (.ref (He.ga K "Over")) := He.glo_ok X G (c.t.d.fact 32 (f := .glo "Over") rfl)
  have gI : mg "Image" = some (.ref (He.ga K "Image")) := He.glo_ok X G (c.t.d.fact 33 (f := .glo "Image") rfl)
  have eN := He.exm_ok (c.t.d.fact 55 (f := .exm "NoPlace" "NoPlace" true) rfl)
  have mN := He.meth_ok (c.t.d.fact 56 (f := .meth "NoPlace" "__init__") rfl)
  have nNp := He.noat_ok (c.t.d.fact 57 (f := .noat "NoPlace" "p") rfl)
  have ON := oexB_ok x1
  have XN := xfB_ok x2
  have eO := He.exm_ok (c.t.d.fact 58 (f := .exm "Over" "Over" true) rfl)
  have mO := He.meth_ok (c.t.d.fact 59 (f := .meth "Over" "__init__") rfl)
  have nOp := He.noat_ok (c.t.d.fact 60 (f := .noat "Over" "p") rfl)
  have nOq := He.noat_ok (c.t.d.fact 61 (f := .noat "Over" "q") rfl)
  have OO := oexB_ok x3
  have XO := xfB_ok x4
  have oON := He.exm_ok (c.t.d.fact 62 (f := .exm "Over" "NoPlace" false) rfl)
  have CD := He.cls_ok (c.t.d.fact 68 (f := .cls "Image") rfl)
  have KD := He.mkr_ok (c.t.d.fact 69 (f := .mkr "Image") rfl)
  have B : ImC K (He.ga K "Image") := ⟨CD, He.noat_ok (c.t.d.fact 65 (f := .noat "Image" "parts") rfl), He.noat_ok (c.t.d.fact 66 (f := .noat "Image" "sums") rfl), He.noat_ok (c.t.d.fact 67 (f := .noat "Image" "first") rfl)⟩
  obtain ⟨d0, D0⟩ := c.t.d.def_ 0 (d := dd "is_integer" 10) rfl
  have F0 : Fun K "is_integer" "is_integer" sIsInt (He.ga K "is_integer") d0 := fun_of D0
  have g0 : mg "is_integer" = some (.ref (He.ga K "is_integer")) := He.glo_ok X G (c.t.d.fact 0 (f := .glo "is_integer") rfl)
  have b0 : Binds K d0 ["thing"] [] := F0.binds fun _ _ _ _ _ _ us hl => match us, hl with | [_], _ => rfl
  obtain ⟨d1, D1⟩ := c.t.d.def_ 1 (d := dd "is_row" 11) rfl
  have F1 : Fun K "is_row" "is_row" sIsRow (He.ga K "is_row") d1 := fun_of D1
  have g1 : mg "is_row" = some (.ref (He.ga K "is_row")) := He.glo_ok X G (c.t.d.fact 1 (f := .glo "is_row") rfl)
  have b1 : Binds K d1 ["thing"] [] := F1.binds fun _ _ _ _ _ _ us hl => match us, hl with | [_], _ => rfl
  obtain ⟨d2, D2⟩ := c.t.d.def_ 2 (d := dd "is_row_of" 12) rfl
  have F2 : Fun K "is_row_of" "is_row_of" sIsRowOf (He.ga K "is_row_of") d2 := fun_of D2
  have g2 : mg "is_row_of" = some (.ref (He.ga K "is_row_of")) := He.glo_ok X G (c.t.d.fact 2 (f := .glo "is_row_of") rfl)
  have b2 : Binds K d2 ["thing", "many"] [] := F2.binds fun _ _ _ _ _ _ us hl => match us, hl with | [_, _], _ => rfl
  obtain ⟨d3, D3⟩ := c.t.d.def_ 3 (d := dd "is_name" 13) rfl
  have F3 : Fun K "is_name" "is_name" sIsName (He.ga K "is_name") d3 := fun_of D3
  have g3 : mg "is_name" = some (.ref (He.ga K "is_name")) := He.glo_ok X G (c.t.d.fact 3 (f := .glo "is_name") rfl)
  have b3 : Binds K d3 ["thing"] [] := F3.binds fun _ _ _ _ _ _ us hl => match us, hl with | [_], _ => rfl
  obtain ⟨d4, D4⟩ := c.t.d.def_ 4 (d := dd "read_address" 14) rfl
  have F4 : Fun K "read_address" "read_address" sReadAddr (He.ga K "read_address") d4 := fun_of D4
  have g4 : mg "read_address" = some (.ref (He.ga K "read_address")) := He.glo_ok X G (c.t.d.fact 4 (f := .glo "read_address") rfl)
  have b4 : Binds K d4 ["thing"] [] := F4.binds fun _ _ _ _ _ _ us hl => match us, hl with | [_], _ => rfl
  obtain ⟨d5, D5⟩ := c.t.d.def_ 5 (d := dd "read_unknown" 17) rfl
  have F5 : Fun K "read_unknown" "read_unknown" sReadUnk (He.ga K "read_unknown") d5 := fun_of D5
  have g5 : mg "read_unknown" = some (.ref (He.ga K "read_unknown")) := He.glo_ok X G (c.t.d.fact 5 (f := .glo "read_unknown") rfl)
  have b5 : Binds K d5 ["thing"] [] := F5.binds fun _ _ _ _ _ _ us hl => match us, hl with | [_], _ => rfl
  obtain ⟨d6, D6⟩ := c.t.d.def_ 6 (d := dd "order_of" 18) rfl
  have F6 : Fun K "order_of" "order_of" sOrderOf (He.ga K "order_of") d6 := fun_of D6
  have g6 : mg "order_of" = some (.ref (He.ga K "order_of")) := He.glo_ok X G (c.t.d.fact 6 (f := .glo "order_of") rfl)
  have b6 : Binds K d6 ["unknown"] [] := F6.binds fun _ _ _ _ _ _ us hl => match us, hl with | [_], _ => rfl
  obtain ⟨d7, D7⟩ := c.t.d.def_ 7 (d := dd "one_form" 19) rfl
  have F7 : Fun K "one_form" "one_form" sOneForm (He.ga K "one_form") d7 := fun_of D7
  have g7 : mg "one_form" = some (.ref (He.ga K "one_form")) := He.glo_ok X G (c.t.d.fact 7 (f := .glo "one_form") rfl)
  have b7 : Binds K d7 ["number", "multiples"] [] := F7.binds fun _ _ _ _ _ _ us hl => match us, hl with | [_, _], _ => rfl
  obtain ⟨d8, D8⟩ := c.t.d.def_ 8 (d := dd "read_sum" 20) rfl
  have F8 : Fun K "read_sum" "read_sum" sReadSum (He.ga K "read_sum") d8 := fun_of D8
  have g8 : mg "read_sum" = some (.ref (He.ga K "read_sum")) := He.glo_ok X G (c.t.d.fact 8 (f := .glo "read_sum") rfl)
  have b8 : Binds K d8 ["thing"] [] := F8.binds fun _ _ _ _ _ _ us hl => match us, hl with | [_], _ => rfl
  obtain ⟨d9, D9⟩ := c.t.d.def_ 9 (d := dd "worth_at" 21) rfl
  have F9 : Fun K "worth_at" "worth_at" sWorth (He.ga K "worth_at") d9 := fun_of D9
  have g9 : mg "worth_at" = some (.ref (He.ga K "worth_at")) := He.glo_ok X G (c.t.d.fact 9 (f := .glo "worth_at") rfl)
  have b9 : Binds K d9 ["one", "places"] [] := F9.binds fun _ _ _ _ _ _ us hl => match us, hl with | [_, _], _ => rfl
  obtain ⟨d10, D10⟩ := c.t.d.def_ 10 (d := dd "read_piece" 23) rfl
  have F10 : Fun K "read_piece" "read_piece" sReadPc (He.ga K "read_piece") d10 := fun_of D10
  have g10 : mg "read_piece" = some (.ref (He.ga K "read_piece")) := He.glo_ok X G (c.t.d.fact 10 (f := .glo "read_piece") rfl)
  have b10 : Binds K d10 ["thing"] [] := F10.binds fun _ _ _ _ _ _ us hl => match us, hl with | [_], _ => rfl
  obtain ⟨d11, D11⟩ := c.t.d.def_ 11 (d := dd "read_pieces" 24) rfl
  have F11 : Fun K "read_pieces" "read_pieces" sReadPcs (He.ga K "read_pieces") d11 := fun_of D11
  have g11 : mg "read_pieces" = some (.ref (He.ga K "read_pieces")) := He.glo_ok X G (c.t.d.fact 11 (f := .glo "read_pieces") rfl)
  have b11 : Binds K d11 ["pieces"] [] := F11.binds fun _ _ _ _ _ _ us hl => match us, hl with | [_], _ => rfl
  obtain ⟨d12, D12⟩ := c.t.d.def_ 12 (d := dd "words_of" 25) rfl
  have F12 : Fun K "words_of" "words_of" sWords (He.ga K "words_of") d12 := fun_of D12
  have g12 : mg "words_of" = some (.ref (He.ga K "words_of")) := He.glo_ok X G (c.t.d.fact 12 (f := .glo "words_of") rfl)
  have b12 : Binds K d12 ["pieces"] [] := F12.binds fun _ _ _ _ _ _ us hl => match us, hl with | [_], _ => rfl
  obtain ⟨d13, D13⟩ := c.t.d.def_ 13 (d := dd "kinds_of" 27) rfl
  have F13 : Fun K "kinds_of" "kinds_of" sKinds (He.ga K "kinds_of") d13 := fun_of D13
  have g13 : mg "kinds_of" = some (.ref (He.ga K "kinds_of")) := He.glo_ok X G (c.t.d.fact 13 (f := .glo "kinds_of") rfl)
  have b13 : Binds K d13 ["pieces"] [] := F13.binds fun _ _ _ _ _ _ us hl => match us, hl with | [_], _ => rfl
  obtain ⟨d14, D14⟩ := c.t.d.def_ 14 (d := dd "check_words" 29) rfl
  have F14 : Fun K "check_words" "check_words" sCheckW (He.ga K "check_words") d14 := fun_of D14
  have g14 : mg "check_words" = some (.ref (He.ga K "check_words")) := He.glo_ok X G (c.t.d.fact 14 (f := .glo "check_words") rfl)
  have b14 : Binds K d14 ["sums", "kinds"] [] := F14.binds fun _ _ _ _ _ _ us hl => match us, hl with | [_, _], _ => rfl
  obtain ⟨d15, D15⟩ := c.t.d.def_ 15 (d := dd "check_places" 31) rfl
  have F15 : Fun K "check_places" "check_places" sCheckP (He.ga K "check_places") d15 := fun_of D15
  have g15 : mg "check_places" = some (.ref (He.ga K "check_places")) := He.glo_ok X G (c.t.d.fact 15 (f := .glo "check_places") rfl)
  have b15 : Binds K d15 ["image", "places"] [] := F15.binds fun _ _ _ _ _ _ us hl => match us, hl with | [_, _], _ => rfl
  obtain ⟨d16, D16⟩ := c.t.d.def_ 16 (d := dd "check_overs" 32) rfl
  have F16 : Fun K "check_overs" "check_overs" sCheckO (He.ga K "check_overs") d16 := fun_of D16
  have g16 : mg "check_overs" = some (.ref (He.ga K "check_overs")) := He.glo_ok X G (c.t.d.fact 16 (f := .glo "check_overs") rfl)
  have b16 : Binds K d16 ["spots"] [] := F16.binds fun _ _ _ _ _ _ us hl => match us, hl with | [_], _ => rfl
  obtain ⟨d17, D17⟩ := c.t.d.def_ 17 (d := dd "laid" 33) rfl
  have F17 : Fun K "laid" "laid" sLaid (He.ga K "laid") d17 := fun_of D17
  have g17 : mg "laid" = some (.ref (He.ga K "laid")) := He.glo_ok X G (c.t.d.fact 17 (f := .glo "laid") rfl)
  have b17 : Binds K d17 ["image", "places"] [] := F17.binds fun _ _ _ _ _ _ us hl => match us, hl with | [_, _], _ => rfl
  obtain ⟨d18, D18⟩ := c.t.d.def_ 18 (d := dd "_law_cell" 35) rfl
  have F18 : Fun K "_law_cell" "_law_cell" sCell (He.ga K "_law_cell") d18 := fun_of D18
  have g18 : mg "_law_cell" = some (.ref (He.ga K "_law_cell")) := He.glo_ok X G (c.t.d.fact 18 (f := .glo "_law_cell") rfl)
  have b18 : Binds K d18 ["script", "k"] [] := F18.binds fun _ _ _ _ _ _ us hl => match us, hl with | [_, _], _ => rfl
  obtain ⟨d19, D19⟩ := c.t.d.def_ 19 (d := dd "_law_pool" 36) rfl
  have F19 : Fun K "_law_pool" "_law_pool" sPool (He.ga K "_law_pool") d19 := fun_of D19
  have g19 : mg "_law_pool" = some (.ref (He.ga K "_law_pool")) := He.glo_ok X G (c.t.d.fact 19 (f := .glo "_law_pool") rfl)
  have b19 : Binds K d19 ["cell"] [] := F19.binds fun _ _ _ _ _ _ us hl => match us, hl with | [_], _ => rfl
  obtain ⟨d20, D20⟩ := c.t.d.def_ 20 (d := dd "_law_take" 37) rfl
  have F20 : Fun K "_law_take" "_law_take" sTake (He.ga K "_law_take") d20 := fun_of D20
  have g20 : mg "_law_take" = some (.ref (He.ga K "_law_take")) := He.glo_ok X G (c.t.d.fact 20 (f := .glo "_law_take") rfl)
  have b20 : Binds K d20 ["pool", "many"] [] := F20.binds fun _ _ _ _ _ _ us hl => match us, hl with | [_, _], _ => rfl
  obtain ⟨d21, D21⟩ := c.t.d.def_ 21 (d := dd "_law_one" 38) rfl
  have F21 : Fun K "_law_one" "_law_one" sOne (He.ga K "_law_one") d21 := fun_of D21
  have g21 : mg "_law_one" = some (.ref (He.ga K "_law_one")) := He.glo_ok X G (c.t.d.fact 21 (f := .glo "_law_one") rfl)
  have b21 : Binds K d21 ["pool", "things"] [] := F21.binds fun _ _ _ _ _ _ us hl => match us, hl with | [_, _], _ => rfl
  obtain ⟨d22, D22⟩ := c.t.d.def_ 22 (d := dd "_law_mixed" 39) rfl
  have F22 : Fun K "_law_mixed" "_law_mixed" sMixed (He.ga K "_law_mixed") d22 := fun_of D22
  have g22 : mg "_law_mixed" = some (.ref (He.ga K "_law_mixed")) := He.glo_ok X G (c.t.d.fact 22 (f := .glo "_law_mixed") rfl)
  have b22 : Binds K d22 ["pool", "things"] [] := F22.binds fun _ _ _ _ _ _ us hl => match us, hl with | [_, _], _ => rfl
  obtain ⟨d23, D23⟩ := c.t.d.def_ 23 (d := dd "_law_key" 40) rfl
  have F23 : Fun K "_law_key" "_law_key" sLKey (He.ga K "_law_key") d23 := fun_of D23
  have g23 : mg "_law_key" = some (.ref (He.ga K "_law_key")) := He.glo_ok X G (c.t.d.fact 23 (f := .glo "_law_key") rfl)
  have b23 : Binds K d23 ["unknown"] [] := F23.binds fun _ _ _ _ _ _ us hl => match us, hl with | [_], _ => rfl
  obtain ⟨d24, D24⟩ := c.t.d.def_ 24 (d := dd "_law_total" 41) rfl
  have F24 : Fun K "_law_total" "_law_total" sTotal (He.ga K "_law_total") d24 := fun_of D24
  have g24 : mg "_law_total" = some (.ref (He.ga K "_law_total")) := He.glo_ok X G (c.t.d.fact 24 (f := .glo "_law_total") rfl)
  have b24 : Binds K d24 ["number", "pairs"] [] := F24.binds fun _ _ _ _ _ _ us hl => match us, hl with | [_, _], _ => rfl
  obtain ⟨d25, D25⟩ := c.t.d.def_ 25 (d := dd "_law_worth" 42) rfl
  have F25 : Fun K "_law_worth" "_law_worth" sLWorth (He.ga K "_law_worth") d25 := fun_of D25
  have g25 : mg "_law_worth" = some (.ref (He.ga K "_law_worth")) := He.glo_ok X G (c.t.d.fact 25 (f := .glo "_law_worth") rfl)
  have b25 : Binds K d25 ["one", "worths"] [] := F25.binds fun _ _ _ _ _ _ us hl => match us, hl with | [_, _], _ => rfl
  obtain ⟨d26, D26⟩ := c.t.d.def_ 26 (d := dd "_law_apart" 43) rfl
  have F26 : Fun K "_law_apart" "_law_apart" sApart (He.ga K "_law_apart") d26 := fun_of D26
  have g26 : mg "_law_apart" = some (.ref (He.ga K "_law_apart")) := He.glo_ok X G (c.t.d.fact 26 (f := .glo "_law_apart") rfl)
  have b26 : Binds K d26 ["pool", "pieces"] [] := F26.binds fun _ _ _ _ _ _ us hl => match us, hl with | [_, _], _ => rfl
  obtain ⟨d27, D27⟩ := c.t.d.def_ 27 (d := dd "_law_pieces" 44) rfl
  have F27 : Fun K "_law_pieces" "_law_pieces" sLPieces (He.ga K "_law_pieces") d27 := fun_of D27
  have g27 : mg "_law_pieces" = some (.ref (He.ga K "_law_pieces")) := He.glo_ok X G (c.t.d.fact 27 (f := .glo "_law_pieces") rfl)
  have b27 : Binds K d27 ["pool"] [] := F27.binds fun _ _ _ _ _ _ us hl => match us, hl with | [_], _ => rfl
  obtain ⟨d28, D28⟩ := c.t.d.def_ 28 (d := dd "_law_met" 45) rfl
  have F28 : Fun K "_law_met" "_law_met" sMet (He.ga K "_law_met") d28 := fun_of D28
  have g28 : mg "_law_met" = some (.ref (He.ga K "_law_met")) := He.glo_ok X G (c.t.d.fact 28 (f := .glo "_law_met") rfl)
  have b28 : Binds K d28 ["ask"] [] := F28.binds fun _ _ _ _ _ _ us hl => match us, hl with | [_], _ => rfl
  obtain ⟨d29, D29⟩ := c.t.d.def_ 29 (d := dd "_law_due" 46) rfl
  have F29 : Fun K "_law_due" "_law_due" sDue (He.ga K "_law_due") d29 := fun_of D29
  have g29 : mg "_law_due" = some (.ref (He.ga K "_law_due")) := He.glo_ok X G (c.t.d.fact 29 (f := .glo "_law_due") rfl)
  have b29 : Binds K d29 ["pieces", "places"] [] := F29.binds fun _ _ _ _ _ _ us hl => match us, hl with | [_, _], _ => rfl
  obtain ⟨d30, D30⟩ := c.t.d.def_ 30 (d := dd "law" 47) rfl
  have F30 : Fun K "law" "law" sLaw (He.ga K "law") d30 := fun_of D30
  have g30 : mg "law" = some (.ref (He.ga K "law")) := He.glo_ok X G (c.t.d.fact 30 (f := .glo "law") rfl)
  have b30 : Binds K d30 ["script"] [] := F30.binds fun _ _ _ _ _ _ us hl => match us, hl with | [_], _ => rfl
  obtain ⟨e0, E0⟩ := c.t.d.def_ 31 (d := ⟨("Image", some "__init__"), "__init__", "Image.__init__", defArgs sImg, defBody sImg, defScope sImg, [], []⟩) rfl
  have M0 : Fun K "__init__" "Image.__init__" sImg (He.ma K (He.ga K "Image") "__init__") e0 := fun_of E0
  have q0 : Binds K e0 ["self", "pieces", "start"] [] := M0.binds fun _ _ _ _ _ _ us hl => match us, hl with | [_, _, _], _ => rfl
  have a0 := He.meth_ok (c.t.d.fact 63 (f := .meth "Image" "__init__") rfl)
  obtain ⟨e1, E1⟩ := c.t.d.def_ 32 (d := ⟨("Image", some "pieces"), "pieces", "Image.pieces", defArgs sPieces, defBody sPieces, defScope sPieces, [], []⟩) rfl
  have M1 : Fun K "pieces" "Image.pieces" sPieces (He.ma K (He.ga K "Image") "pieces") e1 := fun_of E1
  have q1 : Binds K e1 ["self"] [] := M1.binds fun _ _ _ _ _ _ us hl => match us, hl with | [_], _ => rfl
  have a1 := He.meth_ok (c.t.d.fact 64 (f := .meth "Image" "pieces") rfl)
  obtain ⟨dN, DN⟩ := c.t.d.def_ 33 (d := ⟨("NoPlace", some "__init__"), "__init__", "NoPlace.__init__", defArgs sIniN, defBody sIniN, defScope sIniN, [], []⟩) rfl
  have FN : Fun K "__init__" "NoPlace.__init__" sIniN (He.ma K (He.ga K "NoPlace") "__init__") dN := fun_of DN
  have bN : Binds K dN ["self", "p"] [] := FN.binds fun _ _ _ _ _ _ us hl => match us, hl with | [_, _], _ => rfl
  obtain ⟨dO, DO⟩ := c.t.d.def_ 34 (d := ⟨("Over", some "__init__"), "__init__", "Over.__init__", defArgs sIniO, defBody sIniO, defScope sIniO, [], []⟩) rfl
  have FO : Fun K "__init__" "Over.__init__" sIniO (He.ma K (He.ga K "Over") "__init__") dO := fun_of DO
  have bO : Binds K dO ["self", "p", "q"] [] := FO.binds fun _ _ _ _ _ _ us hl => match us, hl with | [_, _, _], _ => rfl
  have CA : FunM K "laid" "laid" sLaid (cA K).1 (He.ga K "laid") d17 := funM_of (p := ("laid", none)) D17
  have CL : FunM K "law" "law" sLaw (cW K).1 (He.ga K "law") d30 := funM_of (p := ("law", none)) D30
  refine ⟨d30, CL, fun base Xb Gb TL1 TL2 => ?_⟩
  have EN : Err P w K mg base "NoPlace" (He.ga K "NoPlace") "p" := ⟨gN, ON, nNp, XN, eN, ⟨_, dN, "p", mN.at_, eq_of_beq mN.fn, bN, ok_iniN FN ON nNp⟩⟩
  have EO : Err2 P w K mg base "Over" (He.ga K "Over") "p" "q" := ⟨gO, OO, nOp, nOq, XO, eO, ⟨_, dO, "p", "q", mO.at_, eq_of_beq mO.fn, bO, ok_iniO FO OO nOp nOq⟩⟩
  have YP : HasM P w K mg base CX0 1 (He.ga K "Image") "pieces" ["self"] (spPieces K (He.ga K "Image")) := ⟨⟨_, e1, a1, q1, ok_pieces M1 T B⟩, CD⟩
  have H0 := has_of (base := base) (P := P) (w := w) g0 D0.kp b0 (ok_isInt F0 T)
  have H1 := has_of (base := base) (P := P) (w := w) g1 D1.kp b1 (ok_isRow F1 T)
  have H2 := has_of (base := base) (P := P) (w := w) g2 D2.kp b2 (ok_isRowOf F2 T (H1.mono (by decide)))
  have H3 := has_of (base := base) (P := P) (w := w) g3 D3.kp b3 (ok_isName F3 T gLet)
  have H4 := has_of (base := base) (P := P) (w := w) g4 D4.kp b4 (ok_readAddr F4 (H2.mono (by decide)) (H3.mono (by decide)) (H0.mono (by decide)))
  have H5 := has_of (base := base) (P := P) (w := w) g5 D5.kp b5 (ok_readUnk F5 T R (H2.mono (by decide)) (H0.mono (by decide)) (H3.mono (by decide)))
  have H7 := has_of (base := base) (P := P) (w := w) g7 D7.kp b7 (ok_oneForm F7 T R F6 g6)
  have H8 := has_of (base := base) (P := P) (w := w) g8 D8.kp b8 (ok_readSum F8 (H0.mono (by decide)) (H2.mono (by decide)) (H1.mono (by decide)) (H5.mono (by decide)) (H7.mono (by decide)))
  have H9 := has_of (base := base) (P := P) (w := w) g9 D9.kp b9 (ok_worth F9 TS)
  have H10 := has_of (base := base) (P := P) (w := w) g10 D10.kp b10 (ok_readPc F10 T (H2.mono (by decide)) (H3.mono (by decide)) (H1.mono (by decide)) (H8.mono (by decide)))
  have H11 := has_of (base := base) (P := P) (w := w) g11 D11.kp b11 (ok_readPcs F11 T (H1.mono (by decide)) (H10.mono (by decide)))
  have H12 := has_of (base := base) (P := P) (w := w) g12 D12.kp b12 (ok_words F12 T)
  have H13 := has_of (base := base) (P := P) (w := w) g13 D13.kp b13 (ok_kinds F13 T)
  have H14 := has_of (base := base) (P := P) (w := w) g14 D14.kp b14 (ok_checkW F14 T)
  have H15 := has_of (base := base) (P := P) (w := w) g15 D15.kp b15 (ok_checkP F15 T EN (YP.mono (by decide)) (H0.mono (by decide)))
  have H16 := has_of (base := base) (P := P) (w := w) g16 D16.kp b16 (ok_checkO F16 T TM EO)
  have H17 : Has P w K mg base (L2.CX P w) 7 "laid" ["image", "places"] (spLaid K (He.ga K "Image") (He.ga K "NoPlace") (He.ga K "Over") (TT K)) := has_of (base := base) (P := P) (w := w) g17 D17.kp b17 (ok_laid CA T TL1 (List.mem_cons_self ..) (huA NE) (YP.mono (by decide)) (H15.mono (by decide)) (H16.mono (by decide)) (H9.mono (by decide)))
  have H18 := has_of (base := base) (P := P) (w := w) g18 D18.kp b18 (ok_cell F18 T.len)
  have H19 := has_of (base := base) (P := P) (w := w) g19 D19.kp b19 (ok_pool F19 T)
  have H20 := has_of (base := base) (P := P) (w := w) g20 D20.kp b20 (ok_take F20 T)
  have H21 := has_of (base := base) (P := P) (w := w) g21 D21.kp b21 (ok_one F21 T (H20.mono (by decide)))
  have H22 := has_of (base := base) (P := P) (w := w) g22 D22.kp b22 (ok_mixed F22 T (H20.mono (by decide)))
  have H23 := has_of (base := base) (P := P) (w := w) g23 D23.kp b23 (ok_lkey F23)
  have H24 := has_of (base := base) (P := P) (w := w) g24 D24.kp b24 (ok_total F24 T (H23.mono (by decide)))
  have H25 := has_of (base := base) (P := P) (w := w) g25 D25.kp b25 (ok_lworth F25 TS)
  have H26 := has_of (base := base) (P := P) (w := w) g26 D26.kp b26 (ok_apart F26 T (H21.mono (by decide)) (H22.mono (by decide)))
  have H27 := has_of (base := base) (P := P) (w := w) g27 D27.kp b27 (ok_lpieces F27 T (H20.mono (by decide)) (H21.mono (by decide)) (H22.mono (by decide)) (H24.mono (by decide)))
  have H29 := has_of (base := base) (P := P) (w := w) g29 D29.kp b29 (ok_due F29 T TA (H25.mono (by decide)))
  have MM : Met K mg (He.ga K "NoPlace") (He.ga K "Over") := ⟨⟨_, d28, g28, F28⟩, ⟨gN, gO, eN, eO, XN, XO, nNp, nOp, nOq, oON⟩⟩
  exact ⟨T, TRep, H18, H19, H20, H21, H27, H26, H29, MM, H17, gI, ⟨_, e0, KD, q0, ok_img M0 T B (H11.mono (by decide)) (H12.mono (by decide)) (H13.mono (by decide)) (H14.mono (by decide)) (H4.mono (by decide))⟩, TL2, List.mem_cons_of_mem _ (List.mem_cons_self ..), huW NE⟩
end DR

open PySem PySem.W PySem.Calls PyProof.Rows
theorem PySem.Challenge.cw_loadanywhere_k04_words_laid_holds : PySem.Challenge.rw_loadanywhere_k04_words_laid.Holds := by
  w_on; o_law
  refine HandSHeadRun.head_any (r := DR.RR) (q := view DR.RR.prog [47]) (H := DR.hkk) (ob := DR.obb) (M := 6000) (loose := DR.loosL) (d := HandSHeadRun.topDef DR.RR.prog 47) (kwd := []) DR.obb_eq
    (by kernel_rfl) (fun s => by kernel_rfl) DR.runL (by kernel_rfl) (by kernel_rfl) (by kernel_rfl) (by rfl) (by first | assumption | decide +kernel) (by decide +kernel) ⟨rfl, rfl, rfl, rfl, rfl, by decide +kernel⟩ ?hw ?hc
  case hw => w_witness2
  case hc =>
    refine GA.walk_here (l := PySem.Challenge.rw_loadanywhere_k04_words_laid) (n := 63) (CX := fun w => L2.CX PySem.Challenge.rw_loadanywhere_k04_words_laid.prog w) rfl (by decide) (by kernel_rfl) ?F (fun _ _ _ _ _ z => by
      obtain ⟨_, _, _, _, _, _, _, _, _, _, _, _, y⟩ := z
      exact y.elim)
    intro w mg fa h Y G hmg0
    obtain ⟨K, KX, c⟩ := Y
    have hmg : mg ("law" : PySem.Str) = some (.ref fa) := by
      have e : (HandSHeadRun.topDef DR.RR.prog 47).name = ("law" : PySem.Str) := by kernel_rfl
      rw [← e]
      exact hmg0
    have gL := He.glo_ok KX G (c.t.d.fact 30 (f := .glo "law") rfl)
    have efa := hmg.symm.trans gL
    cases efa
    obtain ⟨fd, hF, hL⟩ := DR.facts (P := PySem.Challenge.rw_loadanywhere_k04_words_laid.prog) (w := w) KX G c
    refine ⟨K, KX, [DR.cA K, DR.cW K], ?_, ?_, ?_, ?_⟩
    · intro p hp
      rcases List.mem_cons.mp hp with rfl | hp
      · exact c.empty ("laid", none) (List.mem_cons_self ..)
      · obtain rfl := List.mem_singleton.mp hp
        exact c.empty ("law", none) (List.mem_cons_of_mem _ (List.mem_cons_self ..))
    · intro p hp
      rcases List.mem_cons.mp hp with rfl | hp
      · exact c.out ("laid", none) (List.mem_cons_self ..)
      · obtain rfl := List.mem_singleton.mp hp
        exact c.out ("law", none) (List.mem_cons_of_mem _ (List.mem_cons_self ..))
    · intro p hp
      rcases List.mem_cons.mp hp with rfl | hp
      · exact codeHd_of_K KX (c.hd ("laid", none) (List.mem_cons_self ..))
      · obtain rfl := List.mem_singleton.mp hp
        exact codeHd_of_K KX (c.hd ("law", none) (List.mem_cons_of_mem _ (List.mem_cons_self ..)))
    · intro base s H a ns Xb Gb hT hTab hS _ e0
      refine DR.law_here hF (hL base Xb Gb (hT _ (List.mem_cons_self ..)) (hT _ (List.mem_cons_of_mem _ (List.mem_cons_self ..)))) ⟨rfl, by decide, by decide⟩ e0 hS fun p hp => ?_
      rcases List.mem_cons.mp hp with rfl | hp
      · exact LamX.TabS.nil (hTab (DR.cA K) (List.mem_cons_self ..))
      · obtain rfl := List.mem_singleton.mp hp
        exact LamX.TabS.nil (hTab (DR.cW K) (List.mem_cons_of_mem _ (List.mem_cons_self ..)))
