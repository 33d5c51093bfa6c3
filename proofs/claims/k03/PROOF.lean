import PyProof.Rows.All
import Wide.All
import OpenK.AllK
import Wide.FinOn
import HandS.ForMost
import HandS.ForExc
import HandS.More
import HandS.Lambda
import HandS.Ends
import HandS.EndTab
import HandS.HeadWalk
import HandS.Deep
import PyProof.ReprRoads
import KE.DataEq
import KE.SortKeyHeap
import KE.SortData
import HandS.IsInst
import HandS.Walk
import HandS.Dict
import HandS.Style
import HandS.SortInts
import HandS.DictComp
import HandS.Zip
import HandS.TryOnly
import HandS.TupAny
import HandS.TupMul
import KE.GoesMore
import PySem.Challenge.RW_loadanywhere_k03_images_made
import HandS.SortKw
import HandS.ExcInit
import HandS.ExcField
import HandS.Defaults
import HandS.Conv
import PyProof.FitsBits
import KE.IntBitsLaws
import HandS.List
import HandS.WordsExc
import HandS.TupLen
import HandS.OwnEq
import PyProof.InstNe
import HandS.SlotsOwn
import PyProof.P3Eq
import PyProof.ReprBulk
import HandS.ListItems
import Wide.Once
import KE.KStateDown
import Lean
import HandS.Head0
import HandS.Head1
import HandS.Head2
import HandS.HeadHook1
import HandS.HeadHook2
import HandS.HeadHook3
import HandS.HeadHook4
set_option Elab.async false
set_option linter.all false
set_option maxRecDepth 100000
set_option maxHeartbeats 0
namespace GA
open PySem PySem.Spec PyProof.Rows L2
/-! ### the law's own call, told of the very caller: so what stands guarded is known -/
/-- what is known of the heap in which the law is called -/
structure Here (K : PySem.W.Frag) (mg : Str → Option Value) (s : Shared) (cs : List (Addr × Addr)) (a : Addr) (vs : List Value) (ns : List Int) : Prop where
  kin : K.In s.heap
  glob : s.heap.Ns mainGlobals mg
  blt : ∃ mb : Str → Option Value, s.heap.Ns builtinsNs mb ∧ ∀ x : Str, x ≠ "__name__" → mb x = bootBuiltins x
  lim : s.heap.NoLimit
  gens : s.gens = #[]
  tab : ∀ p ∈ cs, s.heap.get? p.2 = some { cls := .none, data := .fields #[] }
  out : ∀ p ∈ cs, K.lookup p.2 = none
  code : ∀ p ∈ cs, PySem.W.CodeHd s.heap p.1 p.2
  bm : ∃ (b : Addr) (o : Obj), mg "__builtins__" = some (.ref b) ∧ b ≠ builtinsNs ∧ s.heap.get? b = some o ∧ o.cls = .type "module" ∧ o.dict = some builtinsNs ∧ o.data = .plain
  obj : s.heap.get? a = some { cls := .type "list", data := .seq vs.toArray }
  nums : IntsAre vs ns
  few : ns.length ≤ sizeLine
section
variable {P : Program} {w : World} {K : PySem.W.Frag} {mg : Str → Option Value} {s : Shared} {cs : List (Addr × Addr)} {a : Addr} {vs : List Value} {ns : List Int}
/-- the script's list and the tables, and nothing else, are followed -/
noncomputable def hp (K : PySem.W.Frag) (cs : List (Addr × Addr)) (a : Addr) (vs : List Value) (ns : List Int) : Hp := fun b =>
  open Classical in
  if b ∈ cs.map Prod.snd then some (.tbl #[]) else if b = a ∧ K.lookup a = none then some (.frz { cls := .type "list", data := .seq vs.toArray } (.lst (ns.map V.int))) else none
theorem hp_tab {p : Addr × Addr} (h : p ∈ cs) : hp K cs a vs ns p.2 = some (.tbl #[]) := by
  unfold hp
  exact if_pos (List.mem_map.mpr ⟨p, h, rfl⟩)
/-- what is followed -/
theorem hp_cases {b : Addr} {u : HO} (h : hp K cs a vs ns b = some u) : (∃ p ∈ cs, p.2 = b ∧ u = .tbl #[]) ∨ (b = a ∧ K.lookup a = none ∧ (∀ p ∈ cs, p.2 ≠ b) ∧ u = .frz { cls := .type "list", data := .seq vs.toArray } (.lst (ns.map V.int))) := by
  unfold hp at h
  by_cases m : b ∈ cs.map Prod.snd
  · rw [if_pos m] at h
    obtain ⟨p, hp, e⟩ := List.mem_map.mp m
    exact .inl ⟨p, hp, e, (Option.some.inj h).symm⟩
  · rw [if_neg m] at h
    by_cases q : b = a ∧ K.lookup a = none
    · rw [if_pos q] at h
      exact .inr ⟨q.1, q.2, fun p hp e => m (List.mem_map.mpr ⟨p, hp, e⟩), (Option.some.inj h).symm⟩
    · rw [if_neg q] at h
      cases h
theorem Here.apart (W : Here K mg s cs a vs ns) {p : Addr × Addr} (h : p ∈ cs) : p.2 ≠ a := fun e => by
  have t := W.tab p h
  rw [e, W.obj] at t
  exact absurd (congrArg Obj.data (Option.some.inj t)) (by simp)
theorem Here.free (W : Here K mg s cs a vs ns) {b : Addr} {o : Obj} (g : s.heap.get? b = some o) (n1 : ∀ z n, o.data ≠ .seq z n) (n2 : o.data ≠ .fields #[]) : hp K cs a vs ns b = none := by
  cases e : hp K cs a vs ns b with
  | none => rfl
  | some u =>
    rcases hp_cases e with ⟨p, hp, rfl, _⟩ | ⟨rfl, _⟩
    · rw [W.tab p hp] at g
      exact absurd (by rw [← Option.some.inj g]) n2
    · rw [W.obj] at g
      exact absurd (by rw [← Option.some.inj g]) (n1 vs.toArray _)
theorem Here.spc (W : Here K mg s cs a vs ns) {b : Addr} {m : Str → Option Value} (h : s.heap.Ns b m) : (hidT s.heap (hp K cs a vs ns)).Ns b m := by
  obtain ⟨o, es, ep, g, d, r⟩ := h
  refine ⟨o, es, ep, hidT_get g (W.free g (fun z n q => ?_) fun q => ?_), d, r⟩
  · rw [d] at q
    cases q
  · rw [d] at q
    cases q
theorem Here.base (W : Here K mg s cs a vs ns) : K.In (hidT s.heap (hp K cs a vs ns)) := fun b o e => by
  refine hidT_get (W.kin b o e) ?_
  cases q : hp K cs a vs ns b with
  | none => rfl
  | some u =>
    rcases hp_cases q with ⟨p, hp, rfl, _⟩ | ⟨rfl, k, _⟩
    · rw [W.out p hp] at e
      cases e
    · rw [k] at e
      cases e
theorem Here.tabB (W : Here K mg s cs a vs ns) {p : Addr × Addr} (h : p ∈ cs) : LamX.TabB (hidT s.heap (hp K cs a vs ns)) mg p.1 p.2 := by
  have tp := W.tab p h
  have apart : ∀ {b : Addr} {o : Obj}, s.heap.get? b = some o → (o.data ≠ .fields #[]) → b ≠ p.2 := fun g n z => by
    rw [z, tp] at g
    exact n (by rw [← Option.some.inj g])
  obtain ⟨og, eg, pg, gg, dg, rg⟩ := id W.glob
  have ng : og.data ≠ .fields #[] := fun z => by
    rw [dg] at z
    cases z
  refine ⟨?_, ?_, apart gg ng⟩
  · obtain ⟨o, us, f1, f2, f3, f4, f5, f6, f7, g, r1, r2, r3, rest⟩ := W.code p h
    refine ⟨o, us, f1, f2, f3, f4, f5, f6, f7, hidT_get g (W.free g (fun z n q => ?_) fun q => ?_), r1, r2, r3, rest⟩
    · rw [r2] at q
      cases q
    · rw [r2] at q
      cases q
      simp at r3
  · obtain ⟨b, o, b1, b2, b3, b4, b5, b6⟩ := W.bm
    have pl : o.data ≠ .fields #[] := fun z => by
      rw [b6] at z
      cases z
    refine ⟨b, o, b1, b2, fun z => ?_, apart b3 pl, hidT_get b3 (W.free b3 (fun z n q => ?_) pl), b4, b5, b6⟩
    · rw [z, gg] at b3
      rw [← Option.some.inj b3, dg] at b6
      cases b6
    · rw [b6] at q
      cases q
theorem Here.sq (W : Here K mg s cs a vs ns) : SqL K (hp K cs a vs ns) a (ns.map V.int) := by
  cases k : K.lookup a with
  | some o =>
    have g := W.kin a o k
    rw [W.obj] at g
    obtain rfl := Option.some.inj g
    exact .inr ⟨_, vs.toArray, _, k, rfl, rfl, rfl, by rw [List.size_toArray, W.nums.length]; exact W.few, by simpa using vals_ints W.nums⟩
  | none =>
    refine .inl (.inr ⟨{ cls := .type "list", data := .seq vs.toArray }, ?_⟩)
    unfold hp
    rw [if_neg, if_pos ⟨rfl, k⟩]
    intro m
    obtain ⟨p, hp, e⟩ := List.mem_map.mp m
    exact W.apart hp e
theorem Here.hok (W : Here K mg s cs a vs ns) : HOk P w (hp K cs a vs ns) s.heap := fun b u e => by
  rcases hp_cases e with ⟨p, hp, rfl, rfl⟩ | ⟨rfl, _, _, rfl⟩
  · exact W.tab p hp
  · exact ⟨W.obj, by rw [List.length_map]; exact W.few, vs, _, vals_ints W.nums, W.obj⟩
theorem Here.env (W : Here K mg s cs a vs ns) : Env0 P w K mg (hidT s.heap (hp K cs a vs ns)) callerA [] s (hp K cs a vs ns) := by
  obtain ⟨mb, b1, b2⟩ := W.blt
  obtain ⟨mc, l1, l2⟩ := W.lim
  exact ⟨rfl, ⟨W.base, W.spc W.glob, ⟨mb, W.spc b1, b2⟩, ⟨mc, W.spc l1, l2⟩⟩, fun b o g => of_hidT g, Nat.le_of_eq (hidT_size _ _), trivial, (by intro b hb; cases hb), W.hok, .of_eq W.gens⟩
/-- what a call that gives True leaves behind -/
theorem Here.after (W : Here K mg s cs a vs ns) {CX : CXT} {r : Result} {s' : Shared} (no : ∀ H e s', CX [] H s (fun _ _ _ => False) e s' → False) (h : CR CX [] P w (hp K cs a vs ns) s (fun v _ => v = .bl true) (fun _ _ _ => False) r s') : r = .ok (.ret (.bool true)) ∧ OldK s.heap s'.heap ∧ s'.os = s.os ∧ AllBare s'.gens := by
  cases r with
  | error e => exact (no _ e s' h).elim
  | ok fl =>
    cases fl with
    | ret u =>
      obtain ⟨v, H', os, bare, un, ok', rv, rfl⟩ := h
      obtain rfl : u = Value.bool true := rv
      have tabs : ∀ p ∈ cs, ∃ z : Array Value, s'.heap.get? p.2 = some { cls := .none, data := .fields z } := fun p hp => by
        obtain ⟨z, e⟩ := un.tbls p.2 #[] (hp_tab hp)
        exact ⟨_, ok' p.2 _ e⟩
      have rest : ∀ b o, (∀ p ∈ cs, p.2 ≠ b) → s.heap.get? b = some o → s'.heap.get? b = some o := fun b o n g => by
        cases q : hp K cs a vs ns b with
        | none => exact un.keep b o g q (by intro z; cases z) (by simp)
        | some u =>
          rcases hp_cases q with ⟨p, hp, e, _⟩ | ⟨rfl, k, _, rfl⟩
          · exact absurd e (n p hp)
          · have f := un.frzs b _ _ q
            obtain ⟨g2, _⟩ := ok' b _ f
            rw [g2, ← g]
            exact W.obj.symm
      refine ⟨rfl, ⟨fun b o g => ?_, fun b o g => ?_⟩, os, bare⟩
      · by_cases m : ∃ p ∈ cs, p.2 = b
        · obtain ⟨p, hp, rfl⟩ := m
          obtain ⟨z, e⟩ := tabs p hp
          rw [W.tab p hp] at g
          obtain rfl := Option.some.inj g
          refine .inr (.inl ⟨((W.code p hp).tab (W.tab p hp)).isCodeTable, rfl, #[], z, rfl, ?_⟩)
          rw [Array.empty_append]
          exact e
        · exact .inl (rest b o (fun p hp e => m ⟨p, hp, e⟩) g)
      · by_cases m : ∃ p ∈ cs, p.2 = b
        · obtain ⟨p, hp, rfl⟩ := m
          obtain ⟨z, e⟩ := tabs p hp
          exact ⟨_, e⟩
        · exact ⟨o, rest b o (fun p hp e => m ⟨p, hp, e⟩) g⟩
    | next => exact h.elim
    | brk => exact h.elim
    | cont => exact h.elim
end
/-- the law's promise at the very call -/
def LawHere (l : PySem.W.OpenLaw) (w : World) (K : PySem.W.Frag) (CX : CXT) (n : Nat) (mg : Str → Option Value) (fa : Addr) (h : Heap) : Prop :=
  ∃ cs : List (Addr × Addr), (∀ p ∈ cs, h.get? p.2 = some { cls := .none, data := .fields #[] }) ∧ (∀ p ∈ cs, K.lookup p.2 = none) ∧ (∀ p ∈ cs, PySem.W.CodeHd h p.1 p.2) ∧
    ∀ (base : Heap) (s : Shared) (H : Hp) (a : Addr) (ns : List Int), K.In base → base.Ns mainGlobals mg → (∀ p ∈ cs, LamX.TabB base mg p.1 p.2) → (∀ p ∈ cs, H p.2 = some (.tbl #[])) → SqL K H a (ns.map V.int) → ns.length ≤ n → Env0 l.prog w K mg base callerA [] s H →
      codeAny (model l.prog w) callerA (.call (.ref fa) ⟨[.ref a], []⟩) (CR CX [] l.prog w H s (fun v _ => v = .bl true) fun _ _ _ => False) s
theorem walk_here {l : PySem.W.OpenLaw} {n : Nat} {q : Program} {loose : List Str} {XP : (Str → Option Value) → Heap → Prop} {YP : World → Heap → Prop} {d : DefRec} {CX : World → CXT} (hn : l.most = some n) (hn2 : n ≤ sizeLine) (hdf : d.params.defaults = [])
    (F : ∀ (w : World) (mg : Str → Option Value) (fa : Addr) (h : Heap), YP w h → h.Ns mainGlobals mg → mg d.name = some (.ref fa) → ∃ K : PySem.W.Frag, K.In h ∧ LawHere l w K (CX w) n mg fa h)
    (no : ∀ (w : World) (H : Hp) (s : Shared) (e : Value) (s' : Shared), CX w [] H s (fun _ _ _ => False) e s' → False) :
    PySem.W.WalkO q loose XP YP l.row.toRowW d [] (fun f vs => PySem.call f vs) := by
  refine Att.attach_callB hn hdf fun w s0 s mg mb fa o pm cd doc a vs ns G Y ho hd hcd hmg hobj hints hlen hbits hg => ?_
  obtain ⟨K, kin, cs, h1, h2, h3, run⟩ := F w mg fa _ Y G.T.g hmg
  have W : Here K mg s cs a vs ns := ⟨kin, G.T.g, ⟨mb, G.T.b, G.T.builtins⟩, G.T.nolimit, hg, h1, h2, h3, G.T.bmain, hobj, hints, Nat.le_trans hlen hn2⟩
  exact codeAny_mono (run _ s _ a ns W.base (W.spc W.glob) (fun p hp => W.tabB hp) (fun p hp => hp_tab hp) W.sq hlen W.env) fun r s' h => W.after (fun H e s2 => no w H s e s2) h
end GA

namespace GA
open PySem PySem.Spec PyProof.Rows L2
/-! ### repr of data -/
def rRepr (K : PySem.W.Frag) : List V → Hp → VK → Prop := fun xs H Q => ∃ (p : Addr) (d : PyData), xs = [.ref p] ∧ Dp K H (.ref p) d ∧ d.showable = true ∧ d.hasDict = false ∧ d.depth ≤ 60 ∧ d.shown.length ≤ sizeLine ∧ Q (.str d.shown) H
theorem call_repr_dat {X : Cx} (hg : X.A.guards = some []) (hu : X.A.units + 65 < cLine) : CallR X (.builtin "repr") (rRepr X.K) := by
  intro pins s σ H xs us Q I r h
  obtain ⟨p, d, rfl, hd, sh, nd, dp, sz, q⟩ := h
  obtain ⟨u, rfl, ru⟩ : ∃ u, us = [u] ∧ RelV (.ref p) u := by
    cases r with
    | cons a b =>
      cases b
      exact ⟨_, rfl, a⟩
  obtain ⟨as, rd⟩ := Dp.reads I d _ _ hd ru
  cases ru
  exact repr_of_reads' rd sh (fun e => by rw [nd] at e; cases e) hg (by omega) (fun b o e => e) (fun h' u tk k => ⟨.str d.shown, H, I.kept (t' := tk) k, ⟨u, rfl⟩, q⟩) sz
end GA

namespace DR
open PySem PySem.Spec PyProof.Rows PySem.W PySem.SeqAt
/-! ### sorting where an earlier place decides: rows that are not all alike -/
/-- rows of data: as far as the first place that differs, the places can be compared -/
def cmpL (R : PyData → PyData → Prop) : List PyData → List PyData → Prop
  | x :: xs, y :: ys => R x y ∧ (PyData.eqv x y = true → cmpL R xs ys)
  | _, _ => True
def alikeP (x y : PyData) : Prop := alike x y = true
def R1 (x y : PyData) : Prop := alikeP x y ∨ ∃ xs ys, x = .tuple xs ∧ y = .tuple ys ∧ cmpL alikeP xs ys
def Toks (x y : PyData) : Prop := (PyData.eqv x y = true → keyToks x = keyToks y) ∧ (PyData.eqv x y = false → ∀ l m, PyProof.Rows.lexLt itemOrd (keyToks x ++ l) (keyToks y ++ m) = PyProof.Rows.lexLt itemOrd (keyToks x) (keyToks y))
def ToksL (xs ys : List PyData) : Prop := (PyData.eqvAll xs ys = true → keyToksAll xs = keyToksAll ys) ∧ (PyData.eqvAll xs ys = false → ∀ l m, PyProof.Rows.lexLt itemOrd (keyToksAll xs ++ l) (keyToksAll ys ++ m) = PyProof.Rows.lexLt itemOrd (keyToksAll xs) (keyToksAll ys))
theorem toksL {R : PyData → PyData → Prop} (h : ∀ x y, R x y → Toks x y) : ∀ xs ys, cmpL R xs ys → ToksL xs ys
  | [], [], _ => ⟨fun _ => rfl, fun e => absurd e (by simp [PyData.eqvAll])⟩
  | [], y :: ys, _ => ⟨fun e => absurd e (by simp [PyData.eqvAll]), fun _ l m => by
      simp only [keyToksAll, List.cons_append, List.nil_append]
      exact (lex_atom (by simp) _ _).trans (lex_atom (by simp) _ _).symm⟩
  | x :: xs, [], _ => ⟨fun e => absurd e (by simp [PyData.eqvAll]), fun _ l m => by
      simp only [keyToksAll, List.cons_append, List.nil_append]
      exact (lex_atom (by simp) _ _).trans (lex_atom (by simp) _ _).symm⟩
  | x :: xs, y :: ys, c => by
    obtain ⟨a1, a2⟩ := h x y c.1
    unfold ToksL
    rw [eqv_all_cons, toks_all_cons, toks_all_cons]
    cases hx : PyData.eqv x y with
    | true =>
      obtain ⟨b1, b2⟩ := toksL h xs ys (c.2 hx)
      rw [a1 hx, Bool.true_and]
      refine ⟨fun e => by rw [b1 e], fun e l m => ?_⟩
      simp only [List.cons_append, List.append_assoc]
      exact (lex_self (O := itemOrd) _ _ _).trans ((lex_pre _ _ _).trans ((b2 e l m).trans ((lex_pre _ _ _).symm.trans (lex_self (O := itemOrd) _ _ _).symm)))
    | false =>
      rw [Bool.false_and]
      refine ⟨fun e => absurd e Bool.false_ne_true, fun _ l m => ?_⟩
      simp only [List.cons_append, List.append_assoc]
      exact (lex_self (O := itemOrd) _ _ _).trans ((a2 hx _ _).trans ((a2 hx _ _).symm.trans (lex_self (O := itemOrd) _ _ _).symm))
theorem toks_alike (x y : PyData) (h : alikeP x y) : Toks x y := toks_eqv x y h
theorem toks_R1 (x y : PyData) (h : R1 x y) : Toks x y := by
  rcases h with h | ⟨xs, ys, rfl, rfl, h⟩
  · exact toks_eqv x y h
  · have t := toksL toks_alike xs ys h
    unfold Toks
    simp only [keyToks, PyData.eqv]
    exact t
section
variable {R : PyData → PyData → Prop} (hT : ∀ x y, R x y → Toks x y)
include hT
theorem lt_yes {x y : PyData} {xs ys : List PyData} (h : R x y) (e : PyData.eqv x y = true) : PyProof.Rows.lexLt itemOrd (keyToksAll (x :: xs)) (keyToksAll (y :: ys)) = PyProof.Rows.lexLt itemOrd (keyToksAll xs) (keyToksAll ys) := by
  rw [toks_all_cons, toks_all_cons, (hT x y h).1 e]
  exact (lex_self (O := itemOrd) _ _ _).trans (lex_pre _ _ _)
theorem lt_no {x y : PyData} {xs ys : List PyData} (h : R x y) (e : PyData.eqv x y = false) : PyProof.Rows.lexLt itemOrd (keyToksAll (x :: xs)) (keyToksAll (y :: ys)) = dataLt x y := by
  rw [toks_all_cons, toks_all_cons]
  exact (lex_self (O := itemOrd) _ _ _).trans ((hT x y h).2 e _ _)
theorem firstLt_cmp : ∀ (xs ys : List PyData), cmpL R xs ys →
    firstLt (pairEq xs ys) (fun j => dataLt (xs.getD j .none) (ys.getD j .none)) (decide (xs.length < ys.length)) (List.range (min xs.length ys.length)) = PyProof.Rows.lexLt itemOrd (keyToksAll xs) (keyToksAll ys)
  | [], [], _ => by simp [firstLt, keyToksAll, lex_irrefl]
  | [], y :: ys, _ => by
    rw [toks_all_cons]
    simp only [keyToksAll]
    rw [lex_diff (O := itemOrd) (by simp)]
    simp [firstLt, itemLt]
  | x :: xs, [], _ => by
    rw [toks_all_cons]
    simp only [keyToksAll]
    rw [lex_diff (O := itemOrd) (by simp)]
    simp [firstLt, itemLt]
  | x :: xs, y :: ys, h => by
    have em : min (x :: xs).length (y :: ys).length = min xs.length ys.length + 1 := by
      rw [List.length_cons, List.length_cons]
      omega
    have ed : decide ((x :: xs).length < (y :: ys).length) = decide (xs.length < ys.length) := by
      rw [List.length_cons, List.length_cons]
      exact decide_eq_decide.mpr (by omega)
    rw [em, ed, List.range_succ_eq_map]
    cases hx : PyData.eqv x y with
    | true =>
      rw [firstLt_yes (show pairEq (x :: xs) (y :: ys) 0 = true from hx), firstLt_map, lt_yes hT h.1 hx, ← firstLt_cmp xs ys (h.2 hx)]
      rfl
    | false =>
      rw [firstLt_no (show pairEq (x :: xs) (y :: ys) 0 = false from hx), lt_no hT h.1 hx]
      rfl
end
/-- the place that is reached can be compared -/
theorem cmpL_at {R : PyData → PyData → Prop} : ∀ (xs ys : List PyData) (j : Nat), cmpL R xs ys → j < xs.length → j < ys.length → (∀ i, i < j → pairEq xs ys i = true) → R (xs.getD j .none) (ys.getD j .none)
  | x :: xs, y :: ys, 0, h, _, _, _ => h.1
  | x :: xs, y :: ys, j + 1, h, h1, h2, e => cmpL_at xs ys j (h.2 (e 0 (Nat.succ_pos _))) (Nat.lt_of_succ_lt_succ h1) (Nat.lt_of_succ_lt_succ h2) fun i hi => e (i + 1) (Nat.succ_lt_succ hi)
  | [], _, _, _, h1, _, _ => absurd h1 (Nat.not_lt_zero _)
  | _ :: _, [], _, _, _, h2, _ => absurd h2 (Nat.not_lt_zero _)
end DR

namespace DR
open PySem PySem.Spec PyProof.Rows PySem.W PySem.SeqAt
open PySem.AutoSeq1 (wpAny_loadPart')
open PySem.MeetsSeq PySem.MeetsSeq2 PySem.MeetsSeq3 PySem.SeqRoads2
section
/-- tuple's own <, a place's < asked only where the ones ahead are equal -/
theorem tuple_ltL (l b : Addr) (items items2 : Array Value) (n n2 : Nat) (dd dd2 : Option Addr) (sl sl2 : Array (Option Value)) (e r : Nat → Bool) :
    Meets (Builtin.«tuple.__lt__» ⟨[.ref l, .ref b], []⟩)
      (fun A R s => s.heap.get? l = some { cls := .type "tuple", dict := dd, data := .seq items n, slots := sl } ∧ s.heap.get? b = some { cls := .type "tuple", dict := dd2, data := .seq items2 n2, slots := sl2 } ∧
        (∀ j (h1 : j < items.size) (h2 : j < items2.size), EqAt A.in1 s items[j] items2[j] (e j)) ∧ (∀ j (h1 : j < items.size) (h2 : j < items2.size), (∀ i, i < j → e i = true) → e j = false → RcLt A.in1 s items[j] items2[j] (r j)) ∧
        R (.ok (.ret (.bool (firstLt e r (decide (items.size < items2.size)) (List.range (min items.size items2.size)))))) s) :=
  .of_wp fun prog w A R s h => by
    obtain ⟨hp, g, d, tk, os⟩ := s; obtain ⟨hl, hb, he, hr, h⟩ := h
    have f2 := AutoSeq1.sub_tuple_tuple
    have hZ : (items.toList.zip items2.toList).length = min items.size items2.size := by simp
    wp_walk using wpAny_loadPart' hl, wpAny_loadPart' hb, wpAny_forIn_list _ (fun rest b s' => b.1 = none ∧ s' = ⟨hp, g, d, tk, os⟩ ∧ ∃ i, rest = (items.toList.zip items2.toList).drop i ∧ (∀ k, k < i → e k = true) ∧
      R (.ok (.ret (.bool (firstLt e r (decide (items.size < items2.size)) ((List.range (min items.size items2.size)).drop i))))) ⟨hp, g, d, tk, os⟩) _
    case turn =>
      rintro ⟨y, x⟩ rest b s' ⟨hb', rfl, i, hz, hpre, hR⟩
      have hlt : i < (items.toList.zip items2.toList).length := by
        rcases Nat.lt_or_ge i (items.toList.zip items2.toList).length with h' | h'
        · exact h'
        · rw [List.drop_of_length_le h'] at hz; cases hz
      have hm : i < min items.size items2.size := hZ ▸ hlt
      have h1 : i < items.size := Nat.lt_of_lt_of_le hm (Nat.min_le_left _ _)
      have h2 : i < items2.size := Nat.lt_of_lt_of_le hm (Nat.min_le_right _ _)
      rw [List.drop_eq_getElem_cons hlt] at hz
      injection hz with hyx hrest
      have hy : y = items[i] := by have := congrArg Prod.fst hyx; simpa using this
      have hx : x = items2[i] := by have := congrArg Prod.snd hyx; simpa using this
      subst hy hx
      have hd : (List.range (min items.size items2.size)).drop i = i :: (List.range (min items.size items2.size)).drop (i + 1) := by simp [List.drop_eq_getElem_cons, hm]
      rw [hd] at hR
      refine wpAny_bind (he i h1 h2 prog w _ _ ?_)
      cases hy : e i with
      | true =>
        rw [firstLt_yes hy] at hR
        wp_walk
        refine ⟨rfl, rfl, i + 1, hrest, fun k hk => ?_, hR⟩
        rcases Nat.lt_succ_iff_lt_or_eq.mp hk with h' | h'
        · exact hpre k h'
        · rw [h']
          exact hy
      | false =>
        rw [firstLt_no hy] at hR
        have hr' := hr i h1 h2 hpre hy prog w
        generalize richCompare CmpOp.Lt items[i] items2[i] = mm at hr' ⊢
        wp_walk
        refine hr' _ _ ?_
        wp_walk
        exact ⟨_, rfl, hR⟩
    case fin =>
      rintro ⟨b1, b2⟩ s' ⟨hb', rfl, i, hz, _, hR⟩
      simp only at hb'
      subst hb'
      have hge : min items.size items2.size ≤ i := by
        rcases Nat.lt_or_ge i (items.toList.zip items2.toList).length with h' | h'
        · rw [List.drop_eq_getElem_cons h'] at hz; cases hz
        · exact hZ ▸ h'
      rw [List.drop_of_length_le (by simpa using hge)] at hR
      wp_walk
      exact ⟨_, rfl, by simpa [Builtin.Tuple.tupleCompareSizes, firstLt] using hR⟩
    case h =>
      exact ⟨rfl, rfl, 0, rfl, fun k hk => absurd hk (Nat.not_lt_zero _), by simpa using h⟩
theorem rcLt_tuplesL {A : Around} {s : Shared} {l b : Addr} {items items2 : Array Value} {e r : Nat → Bool} (hl : s.heap.IsTuple l items) (hb : s.heap.IsTuple b items2) (hu : A.units < cLine)
    (he : ∀ j (h1 : j < items.size) (h2 : j < items2.size), EqAt A.in1 s items[j] items2[j] (e j)) (hr : ∀ j (h1 : j < items.size) (h2 : j < items2.size), (∀ i, i < j → e i = true) → e j = false → RcLt A.in1 s items[j] items2[j] (r j)) :
    RcLt A s (.ref l) (.ref b) (firstLt e r (decide (items.size < items2.size)) (List.range (min items.size items2.size))) := fun prog w E Q h => by
  obtain ⟨⟨cls, dd, data, sl⟩, ho, hc, n, hd⟩ := id hl
  obtain ⟨⟨cls2, dd2, data2, sl2⟩, ho2, hc2, n2, hd2⟩ := id hb
  simp only at hc hd hc2 hd2
  subst hc hd hc2 hd2
  exact richCompare_meets_room (op := .Lt) ⟨_, ho, rfl⟩ ⟨_, ho2, rfl⟩ F.slot_tuple_lt F.entry_tuple_lt (F.args_tuple_lt_2 _ _) (tuple_ltL l b items items2 n n2 dd dd2 sl sl2 e r)
    ⟨ho, ho2, he, hr, show Value.bool (firstLt e r (decide (items.size < items2.size)) (List.range (min items.size items2.size))) ≠ Value.notImplemented ∧ Q (.bool (firstLt e r (decide (items.size < items2.size)) (List.range (min items.size items2.size)))) s from ⟨(fun x => nomatch x), h⟩⟩ hu
end
theorem reads_at {h : Heap} : ∀ {xs : List PyData} {vs : List Value} {as : List Addr}, ReadsAll h vs xs as → ∀ (j : Nat) (h1 : j < vs.length), ∃ as', Reads h vs[j] (xs.getD j .none) as'
  | [], _, _, r, j, h1 => by
    cases r
    exact absurd h1 (Nat.not_lt_zero _)
  | x :: xs, _, _, r, j, h1 => by
    cases r with
    | cons r rs =>
      cases j with
      | zero => exact ⟨_, r⟩
      | succ j => exact reads_at rs j (Nat.lt_of_succ_lt_succ h1)
theorem depth_at : ∀ (xs : List PyData) (j : Nat), (xs.getD j .none).depth ≤ PyData.depthAll xs
  | [], j => by simp [PyData.depth]
  | x :: xs, 0 => by
    rw [PyData.depthAll]
    exact Nat.le_max_left _ _
  | x :: xs, j + 1 => by
    rw [PyData.depthAll]
    exact Nat.le_trans (depth_at xs j) (Nat.le_max_right _ _)
/-- a < b of data of one kind -/
theorem rcLt_R1 {A : Around} {s : Shared} {da db : PyData} {a b : Value} {as bs : List Addr} (ra : Reads s.heap a da as) (rb : Reads s.heap b db bs) (h : R1 da db) (la : da.plain = true) (lb : db.plain = true) (hn : da ≠ .none) (hu : A.units + min da.depth db.depth < cLine) : RcLt A s a b (dataLt da db) := by
  rcases h with h | ⟨xs, ys, rfl, rfl, h⟩
  · exact rcLt_alike da db A s a b as bs ra rb h hn hu
  · cases ra with
    | @tuple l o vs n _ as₁ h1 h2 h3 h4 =>
      cases rb with
      | @tuple l' o' vs' n' _ bs₁ k1 k2 k3 k4 =>
        have n1 : vs.size = xs.length := by simpa using SeqAt.ReadsAll.length _ _ _ h4
        have n2 : vs'.size = ys.length := by simpa using SeqAt.ReadsAll.length _ _ _ k4
        have hin : A.units + 1 + min (PyData.depthAll xs) (PyData.depthAll ys) < cLine := room_in hu
        rw [dataLt_tuple, ← firstLt_cmp toks_alike xs ys h, ← n1, ← n2]
        refine rcLt_tuplesL ⟨_, h1, h2, _, h3⟩ ⟨_, k1, k2, _, k3⟩ (room_here hu) (fun j j1 j2 => ?_) fun j j1 j2 pre hj => ?_
        · have := eqAt_plainAll xs ys A.in1 s vs.toList vs'.toList _ _ h4 k4 la lb hin j (by simpa using j1) (by simpa using j2)
          simpa using this
        · obtain ⟨as', r1⟩ := reads_at h4 j (by simpa using j1)
          obtain ⟨bs', r2⟩ := reads_at k4 j (by simpa using j2)
          have hR : alikeP (xs.getD j .none) (ys.getD j .none) := cmpL_at xs ys j h (by omega) (by omega) pre
          have d1 := depth_at xs j
          have d2 := depth_at ys j
          have := rcLt_alike (xs.getD j .none) (ys.getD j .none) A.in1 s _ _ _ _ r1 r2 hR (ne_none_of hR hj) (Nat.lt_of_le_of_lt (Nat.add_le_add_left (Nat.le_min.mpr ⟨Nat.le_trans (Nat.min_le_left _ _) d1, Nat.le_trans (Nat.min_le_right _ _) d2⟩) _) hin)
          simpa using this
theorem ne_none_R1 {x y : PyData} (h : R1 x y) (e : PyData.eqv x y = false) : x ≠ .none := by
  rcases h with h | ⟨xs, ys, rfl, rfl, h⟩
  · exact ne_none_of h e
  · exact fun z => nomatch z
section
variable {prog : Program} {w : World} {A : Around} {E : Value → Shared → Prop} {s : Shared}
theorem oneLt_R1 {f : Bool} {da db : PyData} {a b : Value} {as bs : List Addr} {Q : Bool → Shared → Prop} (hf : f = true → ∀ xs, da ≠ .tuple xs) (ra : Reads s.heap a da as) (rb : Reads s.heap b db bs) (h : R1 da db) (la : da.plain = true) (lb : db.plain = true) (hn : da ≠ .none)
    (hu : A.units + min da.depth db.depth < cLine) (hq : Q (dataLt da db) s) : wpAny (model prog w) A (oneLt' f a b) Q E s := by
  rcases id h with ha | ⟨xs, ys, rfl, rfl, hc⟩
  · exact oneLt_alike hf ra rb ha hn hu hq
  · cases f with
    | true => exact absurd rfl (hf rfl xs)
    | false =>
      rw [oneLt'_eq]
      simp only [Bool.false_eq_true, if_false]
      exact wpAny_bind (rcLt_R1 ra rb h la lb hn hu prog w E _ (wpAny_truthy_bool hq))
theorem katLex_R1 {b fin : Bool} {Q : Bool → Shared → Prop} : ∀ (xs ys : List PyData) (i : Nat) (vs ws : List Value) (as bs : List Addr), ReadsAll s.heap vs xs as → ReadsAll s.heap ws ys bs → cmpL R1 xs ys → PyData.plainAll xs = true → PyData.plainAll ys = true →
    A.units + min (PyData.depthAll xs) (PyData.depthAll ys) < cLine → (b = true → i = 0 → ∀ x r t, xs = x :: r → x ≠ .tuple t) → fin = decide (xs.length < ys.length) → Q (PyProof.Rows.lexLt itemOrd (keyToksAll xs) (keyToksAll ys)) s → KatLex prog w A b fin Q (vs.zip ws) i s
  | [], [], i, _, _, _, _, ra, rb, _, _, _, _, _, hf, hq => by
    cases ra
    cases rb
    have e : fin = false := by rw [hf]; rfl
    subst e
    rw [lex_irrefl] at hq
    exact kat_nil hq
  | [], y :: ys, i, _, _, _, _, ra, rb, _, _, _, _, _, hf, hq => by
    cases ra
    have e : fin = true := by rw [hf]; exact decide_eq_true (Nat.succ_pos _)
    subst e
    rw [toks_all_cons] at hq
    simp only [keyToksAll] at hq
    rw [lex_diff (O := itemOrd) (by simp)] at hq
    rw [List.zip_nil_left]
    exact kat_nil (by simpa [itemLt] using hq)
  | x :: xs, [], i, _, _, _, _, ra, rb, _, _, _, _, _, hf, hq => by
    cases rb
    have e : fin = false := by rw [hf]; exact decide_eq_false (Nat.not_lt_zero _)
    subst e
    rw [toks_all_cons] at hq
    simp only [keyToksAll] at hq
    rw [lex_diff (O := itemOrd) (by simp)] at hq
    rw [List.zip_nil_right]
    exact kat_nil (by simpa [itemLt] using hq)
  | x :: xs, y :: ys, i, _, _, _, _, ra, rb, h, lx, ly, hu, hb, hf, hq => by
    have lx' : x.plain = true ∧ PyData.plainAll xs = true := by simpa [PyData.plainAll] using lx
    have ly' : y.plain = true ∧ PyData.plainAll ys = true := by simpa [PyData.plainAll] using ly
    have hf' : fin = decide (xs.length < ys.length) := by
      rw [hf]
      simp only [List.length_cons, Nat.add_lt_add_iff_right]
    cases ra with
    | cons r rs =>
      cases rb with
      | cons r' rs' =>
        rw [List.zip_cons_cons]
        refine kat_cons (eqAt_plain x y A s _ _ _ _ r r' lx'.1 ly'.1 (room_head hu) prog w _ _ ?_)
        cases hx : PyData.eqv x y with
        | true =>
          rw [lt_yes toks_R1 h.1 hx] at hq
          exact kat_yes (katLex_R1 xs ys (i + 1) _ _ _ _ rs rs' (h.2 hx) lx'.2 ly'.2 (room_tail hu) (fun _ hi => absurd hi (Nat.succ_ne_zero i)) hf' hq)
        | false =>
          rw [lt_no toks_R1 h.1 hx] at hq
          refine kat_no (oneLt_R1 (fun hbi t => ?_) r r' h.1 lx'.1 ly'.1 (ne_none_R1 h.1 hx) (room_head hu) hq)
          rw [Bool.and_eq_true] at hbi
          exact hb hbi.1 (by simpa using hbi.2) x xs t rfl
end
end DR

namespace DR
open PySem PySem.Spec PySem.Calls PyProof.Rows PySem.W PySem.SeqAt
/-- rows of data that can be sorted: an earlier place may decide -/
structure Mix (ds : List PyData) (T : Value) : Prop where
  tup : ∀ d, d ∈ ds → ∃ x r, d = .tuple (x :: r) ∧ dataType x = T
  cmp : ∀ xs ys, .tuple xs ∈ ds → .tuple ys ∈ ds → cmpL R1 xs ys
  lay : ∀ d, d ∈ ds → d.plain = true
theorem mix_some {h : Heap} {ds : List PyData} {T : Value} (M : Mix ds T) {v : Value} {d : PyData} {as : List Addr} (hd : d ∈ ds) (r : Reads h v d as) : (dataKind h ds).keyOf v = some (keyToks d) := by
  have q : ∃ d, d ∈ ds ∧ ∃ as, Reads h v d as := ⟨d, hd, as, r⟩
  have e : (dataKind h ds).keyOf v = some (keyToks q.choose) := by
    show (open Classical in if q : ∃ d, d ∈ ds ∧ ∃ as, Reads h v d as then some (keyToks q.choose) else none) = _
    rw [dif_pos q]
  obtain ⟨h1, as', h2⟩ := q.choose_spec
  rw [e, SeqAt.plain_unique _ _ _ _ _ (M.lay _ h1) h2 r]
theorem mix_keys {h : Heap} {ds : List PyData} {T : Value} (M : Mix ds T) {vs : List Value} (e : EachIs (fun v d => ∃ as, Reads h v d as) vs ds) : EachIs (fun v d => (dataKind h ds).keyOf v = some (keyToks d)) vs ds :=
  (each_mem e).mono fun _ _ ⟨⟨_, r⟩, hd⟩ => mix_some M hd r
section
variable {prog : Program} {w : World} {A : Around} {s : Shared}
theorem sorts_mix {vs : List Value} {ds : List PyData} {T : Value} (e : EachIs (fun v d => ∃ as, Reads s.heap v d as) vs ds) (M : Mix ds T) (hT : (T == T) = true) (hu : ∀ d, d ∈ ds → A.units + d.depth < cLine) : SortsAt prog w A s (dataKind s.heap ds) vs := by
  refine ⟨fun v hv => ?_, tuples' (T != Value.type "tuple"), ?_, fun h2 E Q hq => ?_⟩
  · obtain ⟨d, hd, as, r⟩ := e.left v hv
    exact ⟨_, mix_some M hd r⟩
  · intro E x y a b Q ha hb hq
    obtain ⟨d, as, hd, ra, rfl⟩ := dataKind_inv ha
    obtain ⟨d', as', hd', rb, rfl⟩ := dataKind_inv hb
    have hroom : A.units + min d.depth d'.depth < cLine := Nat.lt_of_le_of_lt (Nat.add_le_add_left (Nat.min_le_left _ _) _) (hu d hd)
    obtain ⟨x1, r1, rfl, t1⟩ := M.tup d hd
    obtain ⟨x2, r2, rfl, t2⟩ := M.tup d' hd'
    have hq' : Q (dataLt (.tuple (x1 :: r1)) (.tuple (x2 :: r2))) s := hq
    rw [dataLt_tuple] at hq'
    cases ra with
    | @tuple l o xs n _ _ h1 h2 h3 h4 =>
      cases rb with
      | @tuple l' o' xs' n' _ _ k1 k2 k3 k4 =>
        have n1 : xs.size = (x1 :: r1).length := by simpa using SeqAt.ReadsAll.length _ _ _ h4
        have n2 : xs'.size = (x2 :: r2).length := by simpa using SeqAt.ReadsAll.length _ _ _ k4
        refine kat_lt h1 h3 k1 k3 (katLex_R1 (x1 :: r1) (x2 :: r2) 0 _ _ _ _ h4 k4 (M.cmp _ _ hd hd') (M.lay _ hd) (M.lay _ hd') (by have q := SeqAt.room_in hroom; omega) (fun hb _ x r t ex => ?_) (by rw [n1, n2]) hq')
        obtain ⟨rfl, rfl⟩ := List.cons.inj ex
        rw [← t1] at hb
        exact dataType_tuple hb t
  · obtain ⟨fs, t1, t2, t3⟩ := each_katTups e fun d hd => by
      obtain ⟨x, r, z, _⟩ := M.tup d hd
      exact ⟨x, r, z⟩
    refine kat_kind (T := T) t1 (by omega) (fun f hf => ?_) hT hq
    obtain ⟨x, r, as, m1, m2⟩ := t3 f hf
    obtain ⟨x', r', z, t⟩ := M.tup _ m1
    obtain ⟨rfl, rfl⟩ := List.cons.inj (PyData.tuple.inj z)
    rw [← t]
    exact looks_reads m2
end
section
variable {prog : Program} {w : World} {A : Around} {E : Value → Shared → Prop} {s : Shared} {β : Type} {vs : List Value} {bs : List β} {enc : β → PyData} {R : Value → β → Prop}
/-- sorted(xs) of such rows -/
theorem sorted_mix {l : Addr} {Q : Value → Shared → Prop} {T : Value} (hl : s.heap.IsList l vs.toArray) (e : EachIs R vs bs) (er : EachIs (fun v b => ∃ as, Reads s.heap v (enc b) as) vs bs) (M : Mix (bs.map enc) T) (hT : (T == T) = true) (hL : bs.length ≤ sizeLine)
    (hu : ∀ b, b ∈ bs → A.units + 2 + (enc b).depth < cLine) (h : ∀ out, out.length = bs.length → EachIs R out (bs.mergeSort (dataLe false enc)) → Q (.ref (s.heap.objs.size + 1)) { s with heap := sortedAll s.heap vs (List.toArray out) }) :
    wpAny (model prog w) A (call (.builtin "sorted") [.ref l]) Q E s := by
  have er' : EachIs (fun v b => ∃ as, Reads (sortingHeap (copyHeap s.heap vs) (s.heap.objs.size + 1) vs) v (enc b) as) vs bs := er.mono fun _ _ ⟨as, r⟩ => ⟨as, PyProof.Rows.Reads.keeps (fun _ _ => sorting_copy_old) r⟩
  have em := each_map (R := fun v d => ∃ as, Reads (sortingHeap (copyHeap s.heap vs) (s.heap.objs.size + 1) vs) v d as) enc er'
  exact sorted_vals hl (sorts_mix (s := { s with heap := sortingHeap (copyHeap s.heap vs) (s.heap.objs.size + 1) vs }) em M hT (bound_map hu)) (by rw [e.length]; exact hL)
    (h _ (by rw [sortVals_length false rfl]; exact e.length) (sortVals_each (κ := dataKind (sortingHeap (copyHeap s.heap vs) (s.heap.objs.size + 1) vs) (bs.map enc)) (fun b => keyToks (enc b)) e (each_of_map enc (mix_keys M em))))
end
section
variable {prog : Program} {w : World} {A : Around} {E : Value → Shared → Prop} {s : Shared} {a kS : Addr} {b : Bool} {vs : List Value} {keys : Array Value} {e e1 : Nat} {P : PySem.Fin → Shared → Prop} {kz : List PyData}
/-- what key= leaves -/
def MixOut (kz : List PyData) (vs out : List Value) : Prop := ∃ h ks, out = sortVals (dataKind h kz) false ks vs ∧ EachIs (fun v k => ∃ as, Reads h v k as) ks kz
theorem mix_rest {f : Value} {h₁ : Heap} {T : Value} (kp : KeepsBut a h₁ s.heap) (hkS : h₁.get? kS = none) (nk : s.heap.get? kS = some (seqObj "list" #[] 0)) (na : s.heap.get? a = some (seqObj "list" #[] e1)) (hka : kS ≠ a)
    (hlen : kz.length = vs.length) (hZ : vs.length ≤ sizeLine) (hal : ∀ d, d ∈ kz → alike d d = true) (M : Mix kz T) (hT : (T == T) = true) (hu : ∀ d, d ∈ kz → A.units + d.depth < cLine)
    (turn : ∀ (i : Nat) (v : Value) (k : PyData), vs[i]? = some v → kz[i]? = some k → ∀ (h : Heap) (tk : Nat), KeepsBut a h₁ h →
      wpAny (model prog w) A (call f [v]) (KeyPure k { s with heap := h, toks := tk }) (fun _ _ => False) { s with heap := h, toks := tk })
    (h : ∀ h' tk out c, KeepsBut a h₁ h' → h'.get? a = some (seqObj "list" (List.toArray out) c) → MixOut kz vs out → P (.done (.ret .none)) { s with heap := h', toks := tk }) :
    wpAny (model prog w) A (ksk_rest a f false vs.toArray e1 (.ref kS)) P E s := by
  unfold ksk_rest
  refine wpAny_bind (wpAny_rule ?_)
  first
    | rw [List.forIn_toArray]
    | (rw [← Array.forIn_toList]; simp only [List.toList_toArray])
    | rw [← Array.forIn_toList]
  refine wpAny_bind (ksk_fold (fun i s' => ∃ h' tk kA e, s' = { s with heap := h', toks := tk } ∧ KeepsBut a h₁ h' ∧ h'.get? kS = some (seqObj "list" kA e) ∧ h'.get? a = some (seqObj "list" #[] e1) ∧ EachIs (fun v k => Reads h' v k [] ∧ alike k k = true) kA.toList (kz.take i)) vs 0 s
    ⟨s.heap, s.toks, #[], 0, rfl, kp, nk, na, by rw [List.take_zero]; exact EachIs.nil⟩ ?step ?done)
  case step =>
    rintro j x s' hx ⟨h', tk, kA, e, rfl, kp', nk', na', hk⟩
    simp only [Nat.zero_add] at hk ⊢
    have hj : j < vs.length := (List.getElem?_eq_some_iff.mp hx).1
    obtain ⟨k, hkj⟩ : ∃ k, kz[j]? = some k := ⟨_, List.getElem?_eq_getElem (by omega)⟩
    have hkk : alike k k = true := hal k (List.mem_of_getElem? hkj)
    have hz : kA.size ≤ vs.length := by
      have h1 := hk.length
      rw [Array.length_toList, List.length_take] at h1
      omega
    refine wpAny_bind (wpAny_attempt (wpAny_mono (turn j x k hx hkj h' tk kp') (fun v s'' he => ?_) fun _ _ hF => hF.elim))
    obtain ⟨g, tk2, rfl, hg, hr⟩ := he
    try dsimp only
    have nk2 : g.get? kS = some (seqObj "list" kA e) := hg _ _ nk'
    have na2 : g.get? a = some (seqObj "list" #[] e1) := hg _ _ na'
    have s1 := Heap.SameBut.update g kS (Obj.mapSeq (·.push v))
    obtain ⟨c2, hc2⟩ : ∃ c2, (g.update kS (Obj.mapSeq (·.push v))).get? kS = some (seqObj "list" (kA.push v) c2) := ⟨_, get?_update_seq nk2 (·.push v)⟩
    have ek : kz.take (j + 1) = kz.take j ++ [k] := by rw [List.take_add_one, hkj]; simp
    have ea : (kA.push v).toList = kA.toList ++ [v] := by simp
    refine wpAny_bind (listUpdate_at nk2 rfl ?_ (Nat.le_trans hz hZ) (Nat.le_trans (Nat.le_of_eq (Array.size_push ..)) (Nat.succ_le_succ (Nat.le_trans hz hZ))))
    have keepS : ∀ (u : Value) (d : PyData), Reads g u d [] ∧ alike d d = true → Reads (g.update kS (Obj.mapSeq (·.push v))) u d [] ∧ alike d d = true := fun u d q =>
      ⟨Reads.keepBut (a := kS) (fun b o hb e => (s1.2 b hb).trans e) (fun o e => by rw [nk2] at e; rw [← Option.some.inj e]) d u [] q.2 q.1 (by simp), q.2⟩
    refine wpAny_pure ⟨rfl, _, _, kA.push v, c2, rfl, (kp'.trans_all hg).same s1 (.inr hkS), hc2, (s1.2 a hka.symm).trans na2, ?_⟩
    rw [ea, ek]
    refine each_snoc (R := fun (u : Value) (d : PyData) => Reads (g.update kS (Obj.mapSeq (·.push v))) u d [] ∧ alike d d = true) (keepS v k ⟨hr, hkk⟩) ?_
    exact hk.mono fun u d q => keepS u d ⟨PyProof.Rows.Reads.keeps hg q.1, q.2⟩
  case done =>
    rintro s' ⟨h', tk, kA, e, rfl, kp', nk', na', hk⟩
    have hk' : EachIs (fun v k => ∃ as, Reads h' v k as) kA.toList kz := by
      have e3 : kz.take (0 + vs.length) = kz := List.take_of_length_le (by omega)
      rw [e3] at hk
      exact hk.mono fun v k q => ⟨[], q.1⟩
    have hsz : kA.size = vs.length := by
      have h1 := hk'.length
      rw [Array.length_toList] at h1
      omega
    try dsimp only
    refine wpAny_bind (listItems_at nk' rfl ?_)
    exact keyH_end (κ := dataKind h' kz) (h₁ := h₁) kp' hkS nk' na' hka (sorts_mix (s := { s with heap := h', toks := tk }) hk' M hT hu) hsz hZ fun h3 tk3 c k3 n3 => h h3 tk3 _ c k3 n3 ⟨h', kA.toList, rfl, hk'⟩
theorem mix_tree {f : Value} {n : Nat} {T : Value} (ho : s.heap.get? a = some (seqObj "list" vs.toArray n)) (hlen : kz.length = vs.length) (hZ : vs.length ≤ sizeLine) (hal : ∀ d, d ∈ kz → alike d d = true) (M : Mix kz T) (hT : (T == T) = true) (hu : ∀ d, d ∈ kz → A.units + d.depth < cLine)
    (turn : ∀ (i : Nat) (v : Value) (k : PyData), vs[i]? = some v → kz[i]? = some k → ∀ (h : Heap) (tk : Nat), KeepsBut a s.heap h →
      wpAny (model prog w) A (call f [v]) (KeyPure k { s with heap := h, toks := tk }) (fun _ _ => False) { s with heap := h, toks := tk })
    (h : ∀ h' tk out c, KeepsBut a s.heap h' → h'.get? a = some (seqObj "list" (List.toArray out) c) → MixOut kz vs out → P (.done (.ret .none)) { s with heap := h', toks := tk }) :
    wpAny (model prog w) A (ksk_tree a f false) P E s := by
  have ha : a < s.heap.objs.size := Heap.lt_size ho
  obtain ⟨e1, ho1⟩ : ∃ e1, (s.heap.update a (Obj.mapSeq fun _ => (#[] : Array Value))).get? a = some (seqObj "list" #[] e1) := ⟨_, get?_update_seq ho fun _ => #[]⟩
  have hkS : ((s.heap.update a (Obj.mapSeq fun _ => (#[] : Array Value))).push (seqObj "tuple" vs.toArray 0)).objs.size = s.heap.objs.size + 1 := by rw [size_push', Heap.size_update]
  unfold ksk_tree
  refine wpAny_bind (listItems_at ho rfl ?_)
  refine wpAny_bind (listUpdate_at ho rfl ?_ (by rw [List.size_toArray]; exact hZ) (Nat.zero_le _))
  refine wpAny_bind (seqEpoch_at ho1 rfl ?_)
  refine wpAny_bind (wpAny_newTuple ?_ (by show vs.length ≤ _; exact hZ))
  refine wpAny_bind (wpAny_newList ?_ (Nat.zero_le _))
  refine wpAny_holding ?_
  have kp : KeepsBut a s.heap (sortingHeap s.heap a vs) := fun b o hb q => sortingHeap_old hb q
  refine mix_rest (kz := kz) (h₁ := s.heap) (s := { s with heap := ((s.heap.update a (Obj.mapSeq fun _ => (#[] : Array Value))).push (seqObj "tuple" vs.toArray 0)).push (seqObj "list" #[] 0) }) (kS := ((s.heap.update a (Obj.mapSeq fun _ => (#[] : Array Value))).push (seqObj "tuple" vs.toArray 0)).objs.size)
    kp (Heap.get?_none_of_le (by rw [hkS]; exact Nat.le_succ _)) (Heap.get?_push_size _ rfl) (Heap.get?_push_of_some _ (Heap.get?_push_of_some _ ho1)) (by rw [hkS]; exact Nat.ne_of_gt (Nat.lt_succ_of_lt ha)) hlen hZ hal M hT hu turn h
end
section
variable {prog : Program} {w : World} {A : Around} {E : Value → Shared → Prop} {s : Shared} {β : Type} {vs : List Value} {bs : List β} {R : Value → β → Prop}
/-- sorted(xs, key=f) where the keys are such rows -/
theorem sorted_key_mix {l : Addr} {f : Value} {kw : List (Str × Value)} {Q : Value → Shared → Prop} {T : Value} (k : β → PyData) (hl : s.heap.IsList l vs.toArray) (e : EachIs R vs bs) (hal : ∀ d, d ∈ bs.map k → alike d d = true) (M : Mix (bs.map k) T) (hT : (T == T) = true) (hL : bs.length ≤ sizeLine)
    (hu : ∀ x, x ∈ bs → A.units + 2 + (k x).depth < cLine) (ha1 : argsOk "sorted" ⟨[.ref l], kw⟩) (ha2 : ∀ x, argsOk "list.sort" ⟨[.ref x], kw⟩) (ht : ∀ x, Builtin.«list.sort» ⟨[.ref x], kw⟩ = ksk_tree x f false)
    (turn : ∀ (v : Value) (x : β), R v x → x ∈ bs → ∀ (h : Heap) (tk : Nat), (∀ b o, s.heap.get? b = some o → h.get? b = some o) →
      wpAny (model prog w) A.in1.in1 (call f [v]) (KeyPure (k x) { s with heap := h, toks := tk }) (fun _ _ => False) { s with heap := h, toks := tk })
    (h : ∀ out c h' tk, (∀ b o, s.heap.get? b = some o → h'.get? b = some o) → s.heap.get? (s.heap.objs.size + 1) = none → h'.get? (s.heap.objs.size + 1) = some (seqObj "list" (List.toArray out) c) → out.length = bs.length → EachIs R out (bs.mergeSort (dataLe false k)) →
      Q (.ref (s.heap.objs.size + 1)) { s with heap := h', toks := tk }) :
    wpAny (model prog w) A (call (.builtin "sorted") [.ref l] kw) Q E s := by
  have fresh : s.heap.get? (s.heap.objs.size + 1) = none := Heap.get?_none_of_le (Nat.le_succ _)
  have up : ∀ {g : Heap}, KeepsBut (s.heap.objs.size + 1) (copyHeap s.heap vs) g → ∀ b o, s.heap.get? b = some o → g.get? b = some o := fun {g} kp b o q =>
    kp b o (Nat.ne_of_lt (Nat.lt_succ_of_lt (Heap.lt_size q))) (copyHeap_old q)
  refine sorted_of_sort hl (by rw [e.length]; exact hL) ha1 ha2 fun E' => ?_
  rw [ht]
  refine mix_tree (kz := bs.map k) (s := { s with heap := copyHeap s.heap vs }) (copyHeap_at s.heap vs) (by rw [List.length_map]; exact e.length.symm) (by rw [e.length]; exact hL) hal M hT (bound_map (A := A.in1.in1) hu)
    (keyH_turns (s := { s with heap := copyHeap s.heap vs }) e fun v x hR hx h tk kp => turn v x hR hx h tk (up kp)) fun h' tk out c kp hD ko => ⟨rfl, ?_⟩
  obtain ⟨hp, ks, rfl, hk⟩ := ko
  have hl2 : ks.length = vs.length := by rw [hk.length, List.length_map, e.length]
  exact h _ c h' tk (up kp) fresh hD (by rw [sortVals_length false hl2]; exact e.length) (sortVals_each (κ := dataKind hp (bs.map k)) (fun b => keyToks (k b)) e (each_of_map k (mix_keys M hk)))
end
end DR

namespace DR
open PySem PySem.Spec PyProof.Rows L2
/-! ### the text by places -/
def topS (i : Nat) : Stmt := PySem.Challenge.pw_loadanywhere_k03_images_made.main.body.getD i (.Pass ⟨0, 0, 0, 0⟩)
/-- a def of the text that stands at a global name and keeps its promise -/
structure Has (P : Program) (w : World) (K : PySem.W.Frag) (mg : Str → Option Value) (base : Heap) (CX : CXT) (k : Nat) (x : Str) (ps : List Str) (sp : Sp) : Prop where
  ex : ∃ (f : Addr) (fd : FuncData), mg x = some (.ref f) ∧ PySem.W.keepIn K (.ref f) = true ∧ Binds K fd ps [] ∧ FnOk P w K mg base CX k f fd ps sp
theorem Has.mono {P : Program} {w : World} {K : PySem.W.Frag} {mg : Str → Option Value} {base : Heap} {CX : CXT} {j k : Nat} {x : Str} {ps : List Str} {sp : Sp} (h : Has P w K mg base CX j x ps sp) (l : j ≤ k) : Has P w K mg base CX k x ps sp := by
  obtain ⟨f, fd, a, b, c, d⟩ := h.ex
  exact ⟨f, fd, a, b, c, d.mono l⟩
section
variable {X : Cx} {CX : CXT} {k : Nat} {ps : List Str} {sp : Sp} {E : XK} {x : Str} {p pos : Pos} {e : Expr} {es : List Expr} {t : TA}
theorem pe_callH (F : Has X.prog X.w X.K X.mg X.base CX k x ps sp) (hr : Room k X.A) (hg : Gl X x) (hx : Passes CX X E)
    (ha : PA X (e :: es) t) (hdb : (x == ("__debug__" : Str)) = false := by decide) (he : starEach (e :: es) X.env = (false, eval e X.env) :: starEach es X.env := by rfl) (hpl : (backTo pos (starEach es X.env)).any (·.1) = false := by rfl) :
    PE X (.Call (.Name x p) (e :: es) [] pos) (tCall sp [] E t) := by
  obtain ⟨f, fd, a, b, c, d⟩ := F.ex
  exact pe_call d hr hg a b c .nil hx ha hdb he hpl
end
/-- the names of built-ins that the law and the program ask -/
structure Bi (mg : Str → Option Value) : Prop where
  len : mg "len" = none
  int : mg "int" = none
  str : mg "str" = none
  bool : mg "bool" = none
  list : mg "list" = none
  tuple : mg "tuple" = none
  isinstance : mg "isinstance" = none
  all : mg "all" = none
  sorted : mg "sorted" = none
  range : mg "range" = none
  enumerate : mg "enumerate" = none
  zip : mg "zip" = none
  dict : mg "dict" = none
  min : mg "min" = none
  set : mg "set" = none
end DR

namespace DR
open PySem PySem.Spec PyProof.Rows L2
/-! ### things: data, and the empty dict -/
theorem rd_same {H H' : Hp} {a : Addr} {u : HO} (e : Same H H') (h : Rd H a u) : Rd H' a u := by
  rcases h with h | ⟨o, h⟩
  · exact .inl (e _ _ h)
  · exact .inr ⟨o, e _ _ h⟩
theorem sqL_same {K : PySem.W.Frag} {H H' : Hp} {a : Addr} {xs : List V} (e : Same H H') (h : SqL K H a xs) : SqL K H' a xs := e.seq h
theorem sqT_same {K : PySem.W.Frag} {H H' : Hp} {a : Addr} {xs : List V} (e : Same H H') (h : SqT K H a xs) : SqT K H' a xs := by
  rcases h with h | h
  · exact .inl (rd_same e h)
  · exact .inr h
mutual
theorem dp_same {K : PySem.W.Frag} {H H' : Hp} (e : Same H H') : ∀ {v : V} {d : PyData}, Dp K H v d → Dp K H' v d
  | _, _, .non => .non
  | _, _, .bl b => .bl b
  | _, _, .int i => .int i
  | _, _, .str x => .str x
  | _, _, .lst s a => .lst (sqL_same e s) (dps_same e a)
  | _, _, .tup s a => .tup (sqT_same e s) (dps_same e a)
theorem dps_same {K : PySem.W.Frag} {H H' : Hp} (e : Same H H') : ∀ {vs : List V} {ds : List PyData}, DpAll K H vs ds → DpAll K H' vs ds
  | _, _, .nil => .nil
  | _, _, .cons h t => .cons (dp_same e h) (dps_same e t)
end
theorem same_new {H : Hp} {p : Addr} {o : HO} (h : H p = none) : Same H (upd H p o) := fun b x e => by
  rw [upd_ne (ne_of_none e h)]
  exact e
/-- data, or a dict -/
inductive Th (K : PySem.W.Frag) (H : Hp) : V → PyData → Prop
  | dat {v : V} {d : PyData} : Dp K H v d → Th K H v d
  | dct {a : Addr} {kvs : List (Key × V)} : H a = some (.dK kvs) → Th K H (.ref a) (.dict [])
theorem th_same {K : PySem.W.Frag} {H H' : Hp} (e : Same H H') {v : V} {d : PyData} : Th K H v d → Th K H' v d
  | .dat h => .dat (dp_same e h)
  | .dct h => .dct (e _ _ h)
def tyN : PyData → String
  | .none => "NoneType"
  | .bool _ => "bool"
  | .int _ => "int"
  | .str _ => "str"
  | .list _ => "list"
  | .tuple _ => "tuple"
  | .dict _ => "dict"
theorem ty_list {K : PySem.W.Frag} {H : Hp} {a : Addr} {xs : List V} (h : SqL K H a xs) : TyX K H (.ref a) (.type "list") := by
  rcases h with (h | ⟨o, h⟩) | ⟨o, its, n, h, c, _⟩
  · exact .base (.lst h)
  · exact .base (.frz h)
  · exact .kList h c
theorem ty_tup {K : PySem.W.Frag} {H : Hp} {a : Addr} {xs : List V} (h : SqT K H a xs) : TyX K H (.ref a) (.type "tuple") := by
  rcases h with (h | ⟨o, h⟩) | ⟨o, its, n, h, c, _⟩
  · exact .base (.tup h)
  · exact .fTuple h
  · exact .kTuple h c
theorem th_ty {K : PySem.W.Frag} {H : Hp} {v : V} {d : PyData} (h : Th K H v d) : TyX K H v (.type (tyN d)) := by
  cases h with
  | dct h => exact .base (.dK h)
  | dat h =>
    cases h with
    | non => exact .base .non
    | bl b => exact .base (.bl b)
    | int i => exact .base (.int i)
    | str x => exact .base (.str x)
    | lst s _ => exact ty_list s
    | tup s _ => exact ty_tup s
def isI : PyData → Bool
  | .int _ => true
  | _ => false
def isIB : PyData → Bool
  | .int _ => true
  | .bool _ => true
  | _ => false
def isB : PyData → Bool
  | .bool _ => true
  | _ => false
def isS : PyData → Bool
  | .str _ => true
  | _ => false
def isR : PyData → Bool
  | .list _ => true
  | .tuple _ => true
  | _ => false
def tyNs : List String := ["NoneType", "bool", "int", "str", "list", "tuple", "dict"]
theorem tyN_mem (d : PyData) : tyN d ∈ tyNs := by cases d <;> simp [tyN, tyNs]
theorem kb_int : ∀ n ∈ tyNs, kitB n "int" = some (n == "int" || n == "bool") := by decide +kernel
theorem kb_bool : ∀ n ∈ tyNs, kitB n "bool" = some (n == "bool") := by decide +kernel
theorem kb_str : ∀ n ∈ tyNs, kitB n "str" = some (n == "str") := by decide +kernel
theorem kb_list : ∀ n ∈ tyNs, kitB n "list" = some (n == "list") := by decide +kernel
theorem kb_tup : ∀ n ∈ tyNs, kitB n "tuple" = some (n == "tuple") := by decide +kernel
theorem kit_int {K : PySem.W.Frag} (d : PyData) : PySem.W.kitOne K (.type (tyN d)) (.type "int") = some (isIB d) := by
  have h := kb_int _ (tyN_mem d)
  have e : (tyN d == "int" || tyN d == "bool") = isIB d := by cases d <;> rfl
  rw [e] at h
  exact kit_ty h
theorem kit_bool {K : PySem.W.Frag} (d : PyData) : PySem.W.kitOne K (.type (tyN d)) (.type "bool") = some (isB d) := by
  have h := kb_bool _ (tyN_mem d)
  have e : (tyN d == "bool") = isB d := by cases d <;> rfl
  rw [e] at h
  exact kit_ty h
theorem kit_str {K : PySem.W.Frag} (d : PyData) : PySem.W.kitOne K (.type (tyN d)) (.type "str") = some (isS d) := by
  have h := kb_str _ (tyN_mem d)
  have e : (tyN d == "str") = isS d := by cases d <;> rfl
  rw [e] at h
  exact kit_ty h
theorem kit_row {K : PySem.W.Frag} (d : PyData) : PySem.W.kitAny K (.type (tyN d)) [.type "list", .type "tuple"] = some (isR d) := by
  have h1 := kb_list _ (tyN_mem d)
  have h2 := kb_tup _ (tyN_mem d)
  refine kitAny_cons (kit_ty h1) (fun z => kitAny_cons (kit_ty h2) (fun z2 => ?_) fun z2 => ?_) fun z => ?_
  all_goals
    revert z
    try revert z2
    cases d <;> simp [tyN, isR, kitAny_nil]
/-- isinstance of a thing, one class -/
theorem isi1 {K : PySem.W.Frag} {H : Hp} {v : V} {d : PyData} {n : String} {b : Bool} {Q : VK} (h : Th K H v d) (k : PySem.W.kitOne K (.type (tyN d)) (.type n) = some b) (q : Q (.bl b) H) : rIsi K [v, .ty n] H Q :=
  ⟨v, .ty n, _, _, b, rfl, .ty n, th_ty h, k, q⟩
def spIsInt (K : PySem.W.Frag) : Sp := fun vs H Q _ => ∃ v d, vs = [v] ∧ Th K H v d ∧ Q (.bl (isI d)) H
def spIsRow (K : PySem.W.Frag) : Sp := fun vs H Q _ => ∃ v d, vs = [v] ∧ Th K H v d ∧ ∀ H', Same H H' → Q (.bl (isR d)) H'
/-- the items of a list or tuple -/
def items : PyData → Option (List PyData)
  | .list xs => some xs
  | .tuple xs => some xs
  | _ => none
def isRof (d : PyData) (n : Int) : Bool := match items d with
  | some xs => decide ((xs.length : Int) = n)
  | none => false
def spIsRowOf (K : PySem.W.Frag) : Sp := fun vs H Q _ => ∃ v d n, vs = [v, .int n] ∧ Th K H v d ∧ ∀ H', Same H H' → Q (.bl (isRof d n)) H'
theorem dps_len {K : PySem.W.Frag} {H : Hp} : ∀ {vs : List V} {ds : List PyData}, DpAll K H vs ds → vs.length = ds.length
  | _, _, .nil => rfl
  | _, _, .cons _ t => congrArg (· + 1) (dps_len t)
/-- a thing that is a row: its place and items -/
theorem th_row {K : PySem.W.Frag} {H : Hp} {v : V} {d : PyData} (h : Th K H v d) {ds : List PyData} (e : items d = some ds) : ∃ a xs, v = .ref a ∧ (SqL K H a xs ∨ SqT K H a xs) ∧ DpAll K H xs ds := by
  cases h with
  | dct h => cases e
  | dat h =>
    cases h with
    | non => cases e
    | bl b => cases e
    | int i => cases e
    | str x => cases e
    | lst s t =>
      cases e
      exact ⟨_, _, rfl, .inl s, t⟩
    | tup s t =>
      cases e
      exact ⟨_, _, rfl, .inr s, t⟩
theorem isR_items (d : PyData) : isR d = (items d).isSome := by cases d <;> rfl
abbrev sIsInt : Stmt := topS 8
abbrev sIsRow : Stmt := topS 9
abbrev sIsRowOf : Stmt := topS 10
abbrev sIsName : Stmt := topS 11
theorem scIsInt : FnScope ["thing"] ["thing"] (defScope sIsInt) := ⟨rfl, rfl, rfl, by decide +kernel, rfl, by decide +kernel, by decide +kernel⟩
theorem scIsRow : FnScope ["thing"] ["thing"] (defScope sIsRow) := ⟨rfl, rfl, rfl, by decide +kernel, rfl, by decide +kernel, by decide +kernel⟩
theorem scIsRowOf : FnScope ["thing", "many"] ["thing", "many"] (defScope sIsRowOf) := ⟨rfl, rfl, rfl, by decide +kernel, rfl, by decide +kernel, by decide +kernel⟩
theorem scIsName : FnScope ["thing", "letter"] ["thing"] (defScope sIsName) := ⟨rfl, rfl, rfl, by decide +kernel, rfl, by decide +kernel, by decide +kernel⟩
def lettersS : Str := "abcdefghijklmnopqrstuvwxyz"
def isNmS (s : Str) : Bool := decide (1 ≤ (s.length : Int)) && (decide ((s.length : Int) ≤ 8) && s.cps.toList.all fun c => decide (c ∈ lettersS.cps.toList))
def isNm : PyData → Bool
  | .str s => isNmS s
  | _ => false
/-- a thing whose text, if it is one, is not too long -/
def shortS : PyData → Prop
  | .str s => s.length ≤ 1000
  | _ => True
def spIsName (K : PySem.W.Frag) : Sp := fun vs H Q _ => ∃ v d, vs = [v] ∧ Th K H v d ∧ shortS d ∧ ∀ H', Same H H' → Q (.bl (isNm d)) H'
section
variable {P : Program} {w : World} {K : PySem.W.Frag} {mg : Str → Option Value} {base : Heap}
theorem ok_isInt {f : Addr} {fd : FuncData} (F : Fun K "is_integer" "is_integer" sIsInt f fd) (T : Bi mg) : FnOk P w K mg base CX0 1 f fd ["thing"] (spIsInt K) := by
  refine F.ok scIsInt (fun vs H Q E h => ?_) (fun cdv A outer s H vs Q E hr h => ?_)
  · obtain ⟨v, d, rfl, _⟩ := h
    rfl
  · obtain ⟨v, d, rfl, th, q⟩ := h
    refine ⟨_, (pss_one (ps_ret (pe_and (pe_callB call_isi (by rfl) T.isinstance (by decide +kernel) (pa_cons (pv 0) (pa_cons (pe_bltn (v := .ty "int") (by rfl) T.int (by decide +kernel) rfl) pa_nil))) (pe_one (pe_not (pe_callB call_isi (by rfl) T.isinstance (by decide +kernel) (pa_cons (pv 0) (pa_cons (pe_bltn (v := .ty "bool") (by rfl) T.bool (by decide +kernel) rfl) pa_nil)))))))), ?_⟩
    refine ⟨_, rfl, v, _, _, _, _, rfl, .ty "int", th_ty th, kit_int d, _, rfl, ?_⟩
    cases e : isIB d with
    | false =>
      refine iteF ?_
      have z : isI d = false := by cases d <;> first | rfl | cases e
      rw [z] at q
      exact q
    | true =>
      refine iteT ⟨_, rfl, v, _, _, _, _, rfl, .ty "bool", th_ty th, kit_bool d, _, rfl, ?_⟩
      have z : isI d = !isB d := by cases d <;> first | rfl | cases e
      rw [z] at q
      exact q
theorem ok_isRow {f : Addr} {fd : FuncData} (F : Fun K "is_row" "is_row" sIsRow f fd) (T : Bi mg) : FnOk P w K mg base CX0 1 f fd ["thing"] (spIsRow K) := by
  refine F.ok scIsRow (fun vs H Q E h => ?_) (fun cdv A outer s H vs Q E hr h => ?_)
  · obtain ⟨v, d, rfl, _⟩ := h
    rfl
  · obtain ⟨v, d, rfl, th, q⟩ := h
    refine ⟨_, (pss_one (ps_ret (pe_callB call_isiT (by rfl) T.isinstance (by decide +kernel) (pa_cons (pv 0) (pa_cons (pe_tup (pa_cons (pe_bltn (v := .ty "list") (by rfl) T.list (by decide +kernel) rfl) (pa_cons (pe_bltn (v := .ty "tuple") (by rfl) T.tuple (by decide +kernel) rfl) pa_nil))) pa_nil))))), ?_⟩
    refine ⟨_, rfl, (by show 2 ≤ sizeLine; decide), fun p hp => ?_⟩
    refine ⟨v, p, _, _, _, _, rfl, upd_same, .cons (.ty "list") (.cons (.ty "tuple") .nil), th_ty (th_same (same_new hp) th), kit_row d, q _ (same_new hp)⟩
theorem ok_isRowOf {f : Addr} {fd : FuncData} (F : Fun K "is_row_of" "is_row_of" sIsRowOf f fd) (T : Bi mg) (G : Has P w K mg base CX0 1 "is_row" ["thing"] (spIsRow K)) : FnOk P w K mg base CX0 2 f fd ["thing", "many"] (spIsRowOf K) := by
  refine F.ok scIsRowOf (fun vs H Q E h => ?_) (fun cdv A outer s H vs Q E hr h => ?_)
  · obtain ⟨v, d, n, rfl, _⟩ := h
    rfl
  · obtain ⟨v, d, n, rfl, th, q⟩ := h
    refine ⟨_, (pss_one (ps_ret (pe_and (pe_callH G hr (by rfl) pass0 (pa_cons (pv 0) pa_nil)) (pe_one (pe_cmpR op_eq (pe_callB call_len_seq (by rfl) T.len (by decide +kernel) (pa_cons (pv 0) pa_nil)) (pv 1) (nomark _)))))), ?_⟩
    refine ⟨_, rfl, v, d, rfl, th, fun H' sm => ⟨_, rfl, ?_⟩⟩
    rw [isR_items]
    have q' := q H' sm
    unfold isRof at q'
    cases e : items d with
    | none =>
      rw [e] at q'
      exact iteF q'
    | some ds =>
      rw [e] at q'
      obtain ⟨a, xs, rfl, hs, ha⟩ := th_row (th_same sm th) e
      refine iteT ⟨_, rfl, a, xs, rfl, hs, _, rfl, rfl, ?_⟩
      rw [dps_len ha]
      have z : decide (V.int (ds.length : Int) = V.int n) = decide ((ds.length : Int) = n) := by
        by_cases c : (ds.length : Int) = n
        · rw [c]; simp
        · rw [decide_eq_false c]
          exact decide_eq_false fun z => c (V.int.inj z)
      rw [z]
      exact q'
theorem yes_go {σ : L2.St} {H : Hp} {F : Bool → Hp → Prop} (h : F true H) : tYes σ H F := h
theorem ok_isName {f : Addr} {fd : FuncData} {t : Tok} (F : Fun K "is_name" "is_name" sIsName f fd) (T : Bi mg) (gL : mg "LETTERS" = some (.str lettersS t)) : FnOk P w K mg base CX0 1 f fd ["thing"] (spIsName K) := by
  refine F.ok scIsName (fun vs H Q E h => ?_) (fun cdv A outer s H vs Q E hr h => ?_)
  · obtain ⟨v, d, rfl, _⟩ := h
    rfl
  · obtain ⟨v, d, rfl, th, sh, q⟩ := h
    refine ⟨_, (pss_cons (ps_if (PW.pt (pw_or (pt_not (pt_val (pe_callB call_isi (by rfl) T.isinstance (by decide +kernel) (pa_cons (pv 0) (pa_cons (pe_bltn (v := .ty "str") (by rfl) T.str (by decide +kernel) rfl) pa_nil))))) (pw_or1 (pt_not (pt_chain op_le op_le pe_int (pe_callB call_len_str (by rfl) T.len (by decide +kernel) (pa_cons (pv 0) pa_nil)) pe_int))))) (pss_one (ps_ret pe_bl)) pss_nil)
      (pss_one (ps_ret (pe_callB (cr_all rfl) (by rfl) T.all (by decide +kernel) (pa_cons (pe_lc (own := [("letter", 1)]) (g := gName 1) (tt := tYes) rfl scIsName.nd (pi_str (pv 0)) (blkOk_by (N := ["thing", "letter"]) (sc := defScope sIsName) (by decide +kernel)) (fun _ _ _ _ _ => pg_name (i := 1) scIsName.nd rfl (.inl rfl)) (fun _ _ _ _ _ => pts_nil) (fun _ _ _ _ _ => (pe_cmpR op_in_sign (pv 1) (pe_glob (v := .str lettersS) rfl gL ⟨_, rfl⟩) (by rfl)))) pa_nil))))), ?_⟩
    refine ⟨_, rfl, v, _, _, _, _, rfl, .ty "str", th_ty th, kit_str d, _, rfl, ?_⟩
    cases d with
    | str s =>
      obtain rfl : v = .str s := by
        cases th with
        | dat h => cases h; rfl
      have hl : s.length ≤ sizeLine := Nat.le_trans sh (by decide)
      refine iteF ⟨_, rfl, s, rfl, hl, _, _, rfl, rfl, _, rfl, ?_⟩
      have q0 : Q (.bl (isNmS s)) H := q H (Same.refl H)
      unfold isNmS at q0
      cases c1 : decide (1 ≤ (s.length : Int)) with
      | false =>
        rw [c1] at q0
        exact iteF ⟨_, rfl, iteT q0⟩
      | true =>
        refine iteT ⟨_, _, rfl, rfl, _, rfl, ?_⟩
        cases c2 : decide ((s.length : Int) ≤ 8) with
        | false =>
          rw [c1, c2] at q0
          exact iteT q0
        | true =>
          refine iteF ⟨_, rfl, s, rfl, fun D hD => ?_⟩
          have e1 : (isNmS s) = s.cps.toList.all fun c => decide (c ∈ lettersS.cps.toList) := by
            unfold isNmS
            rw [c1, c2]
            rfl
          refine lc_it (walk_str (z := s)) (fun i H' => (∀ b o, b ≠ D → H b = some o → H' b = some o) ∧ H' D = some (.lst (((s.cps.toList.take i).map fun c => decide (c ∈ lettersS.cps.toList)).map V.bl))) ⟨fun b o hb e => by rw [upd_ne hb]; exact e, upd_same⟩ (fun _ _ _ _ => trivial) ?_ ?_
          · rintro i x H1 H2 hi ⟨kp, hd⟩ ⟨rfl, c, hc, rfl⟩
            have hc' : s.cps.toList[i]? = some c := by simpa using hc
            refine ⟨rfl, ?_⟩
            refine yes_go (iteT ?_)
            refine ⟨_, rfl, c, lettersS, rfl, rfl, _, hd, ?_, fun b o hb e => ?_, ?_⟩
            · rw [List.length_map, List.length_map, List.length_take]
              refine Nat.lt_of_le_of_lt (Nat.min_le_right _ _) (Nat.lt_of_le_of_lt (m := 1000) ?_ (by decide))
              have e2 : s.cps.toList.length = s.length := by simp [Str.length]
              have sh' : s.length ≤ 1000 := sh
              omega
            · rw [upd_ne hb]
              exact kp b o hb e
            · rw [upd_same, List.take_add_one, hc']
              simp
          · rintro H1 ⟨kp, hd⟩
            refine ⟨D, _, rfl, SqL.of hd, ?_⟩
            have e2 : s.cps.toList.take s.cps.size = s.cps.toList := by
              rw [← Array.length_toList]
              exact List.take_length
            have e3 : ((s.cps.toList.take s.cps.size).map fun c => decide (c ∈ lettersS.cps.toList)).all id = isNm (.str s) := by
              rw [e2, List.all_map]
              exact e1.symm
            rw [e3]
            exact q H1 fun b o e => kp b o (ne_of_none e hD) e
    | none => exact iteT (q H (Same.refl H))
    | bool b => exact iteT (q H (Same.refl H))
    | int i => exact iteT (q H (Same.refl H))
    | list xs => exact iteT (q H (Same.refl H))
    | tuple xs => exact iteT (q H (Same.refl H))
    | dict xs => exact iteT (q H (Same.refl H))
end
end DR

namespace DR
open PySem PySem.Spec PyProof.Rows L2
theorem at_of {xs : List V} {i : Nat} {v : V} (h : xs[i]? = some v) : atI xs (i : Int) = some v := by
  have hi : i < xs.length := (List.getElem?_eq_some_iff.mp h).1
  unfold atI ixN
  rw [if_pos (by omega), if_pos (by omega)]
  show xs[((i : Int)).toNat]? = _
  rw [Int.toNat_natCast]
  exact h
theorem at_last {xs : List V} {v : V} : atI (xs ++ [v]) (-1) = some v := by
  unfold atI ixN
  rw [if_neg (by omega), if_pos (by simp; omega)]
  show (xs ++ [v])[_]? = _
  have e : (-1 + ((xs ++ [v]).length : Int)).toNat = xs.length := by
    rw [List.length_append, List.length_singleton]
    omega
  rw [e]
  simp
theorem strEq (a b : Str) : decide (V.str a = V.str b) = decide (a = b) := by
  by_cases c : a = b
  · rw [c]; simp
  · rw [decide_eq_false c]
    exact decide_eq_false fun z => c (V.str.inj z)
theorem intEq (a b : Int) : decide (V.int a = V.int b) = decide (a = b) := by
  by_cases c : a = b
  · rw [c]; simp
  · rw [decide_eq_false c]
    exact decide_eq_false fun z => c (V.int.inj z)
theorem small1000 {n : Nat} (h : n ≤ 1000) : n < sizeLine := Nat.lt_of_le_of_lt h (by decide)
theorem same_upd {H H' : Hp} {p : Addr} {o : HO} (e : Same H H') (hp : H p = none) : Same H (upd H' p o) := fun b u hb => by
  rw [upd_ne (ne_of_none hb hp)]
  exact e _ _ hb
def SqE (K : PySem.W.Frag) (H : Hp) (a : Addr) (xs : List V) : Prop := SqL K H a xs ∨ SqT K H a xs
theorem sqE_same {K : PySem.W.Frag} {H H' : Hp} {a : Addr} {xs : List V} (e : Same H H') (h : SqE K H a xs) : SqE K H' a xs := h.imp (sqL_same e) (sqT_same e)
theorem cut_from {xs : List V} {r : Nat} (h : r ≤ xs.length) : cutV xs (some (r : Int)) none = xs.drop r := by
  unfold cutV
  rw [HT.sIx_none, HT.sIx_nat, Nat.min_eq_left h]
  rw [List.take_of_length_le (by rw [List.length_drop]; exact Nat.le_refl _)]
theorem cut_to {xs : List V} {r : Nat} (h : r ≤ xs.length) : cutV xs none (some (r : Int)) = xs.take r := by
  unfold cutV
  rw [HT.sIx_none, HT.sIx_nat, List.drop_zero, Nat.sub_zero, Nat.min_eq_left h]
theorem cut_1 (xs : List V) : cutV xs (some 1) none = xs.drop 1 := by
  cases xs with
  | nil => rfl
  | cons x xs => exact cut_from (r := 1) (by simp)
end DR

namespace DR
open PySem PySem.Spec PyProof.Rows L2
def sPiece : Str := "piece"
def sName : Str := "name"
def sIn : Str := "in"
def rank (z : Str) : Option Int := if z = sPiece then some 0 else if z = sName then some 1 else if z = sIn then some 2 else none
/-- the dict RANKS of the text -/
structure Ranks (K : PySem.W.Frag) (w : World) (mg : Str → Option Value) (d : Addr) : Prop where
  g : mg "RANKS" = some (.ref d)
  kd : ∃ es n, KDict K w d es n
  has : ∀ z i, rank z = some i → ∃ t, PySem.W.nsIn K d z = some (some (.int i t))
  no : ∀ z, rank z = none → PySem.W.nsIn K d z = some none
def ofKey (k : Str) (o : PyData) : Option Key := if k = sIn then (match o with
    | .int i => if 1 ≤ i then some (.inl i) else none
    | _ => none) else (match o with
    | .str s => if isNmS s = true then some (.inr s) else none
    | _ => none)
def unkOf (k : Str) (o : PyData) : Option (List Key) := (rank k).bind fun _ => (ofKey k o).map fun z => [.inr k, z]
def readUnk : PyData → Option (List Key)
  | .tuple [.str k, o] => unkOf k o
  | .list [.str k, o] => unkOf k o
  | _ => none
/-- texts in a pair are short -/
def shortP : PyData → Prop
  | .tuple [a, b] => shortS a ∧ shortS b
  | .list [a, b] => shortS a ∧ shortS b
  | _ => True
def UnkV (H : Hp) (v : V) : Option (List Key) → Prop
  | none => v = .non
  | some u => ∃ a, v = .ref a ∧ H a = some (.tup (u.map kV))
def spReadUnk (K : PySem.W.Frag) : Sp := fun vs H Q _ => ∃ v d, vs = [v] ∧ Th K H v d ∧ shortP d ∧ ∀ v' H', Same H H' → UnkV H' v' (readUnk d) → Q v' H'
abbrev sReadUnk : Stmt := topS 15
theorem scReadUnk : FnScope ["thing", "kind", "of", "right"] ["thing"] (defScope sReadUnk) := ⟨rfl, rfl, rfl, by decide +kernel, rfl, by decide +kernel, by decide +kernel⟩
theorem rank_in : rank sIn = some 2 := by decide +kernel
theorem eq_str (a b : Str) : decide (V.str a = V.str b) = decide (a = b) := by
  by_cases c : a = b
  · rw [c]; simp
  · rw [decide_eq_false c]
    exact decide_eq_false fun z => c (V.str.inj z)
theorem eq_int (a b : Int) : decide (V.int a = V.int b) = decide (a = b) := by
  by_cases c : a = b
  · rw [c]; simp
  · rw [decide_eq_false c]
    exact decide_eq_false fun z => c (V.int.inj z)
/-- two names from a list or a tuple -/
def gRow (K : PySem.W.Frag) (n : Nat) (t : TGs) : TG := fun v σ H Q => gTup K n t v σ H Q ∨ gLst K n t v σ H Q
theorem pg_row {X : Cx} {pos : Pos} {es : List Expr} {k : Nat} {t : TGs} {n : Nat} (hc : X.calm = true) (h : PGs X es t) (hn : (assignEach es X.env).length = n := by rfl) (hst : (assignEach es X.env).findIdx? (·.1) = none := by rfl) : PG X (.Tuple es k pos) (gRow X.K n t) :=
  ⟨fun pins s σ H v u Q I r hw => hw.elim (fun z => (pg_tup hc h hn hst).run pins s σ H v u Q I r z) fun z => (pg_lst hc h hn hst).run pins s σ H v u Q I r z⟩
theorem th_tup {K : PySem.W.Frag} {H : Hp} {v : V} {ds : List PyData} (h : Th K H v (.tuple ds)) : ∃ a xs, v = .ref a ∧ SqT K H a xs ∧ DpAll K H xs ds := by
  cases h with
  | dat h =>
    cases h with
    | tup s t => exact ⟨_, _, rfl, s, t⟩
section
variable {P : Program} {w : World} {K : PySem.W.Frag} {mg : Str → Option Value} {base : Heap}
theorem ok_readUnk {f d0 : Addr} {fd : FuncData} (F : Fun K "read_unknown" "read_unknown" sReadUnk f fd) (T : Bi mg) (R : Ranks K w mg d0) (G1 : Has P w K mg base CX0 2 "is_row_of" ["thing", "many"] (spIsRowOf K))
    (G2 : Has P w K mg base CX0 2 "is_integer" ["thing"] (spIsInt K)) (G3 : Has P w K mg base CX0 2 "is_name" ["thing"] (spIsName K)) : FnOk P w K mg base CX0 3 f fd ["thing"] (spReadUnk K) := by
  refine F.ok scReadUnk (fun vs H Q E h => ?_) (fun cdv A outer s H vs Q E hr h => ?_)
  · obtain ⟨v, d, rfl, _⟩ := h
    rfl
  · obtain ⟨v, d, rfl, th, sh, q⟩ := h
    obtain ⟨es, n, kd⟩ := R.kd
    refine ⟨_, (pss_cons (ps_if (pt_not (pt_val (pe_callH G1 hr (by rfl) pass0 (pa_cons (pv 0) (pa_cons pe_int pa_nil))))) (pss_one (ps_ret pe_non)) pss_nil)
      (pss_cons (ps_asg (pv 0) (pg_row rfl (pgs_cons (pg_name (i := 1) scReadUnk.nd rfl (.inl rfl)) (pgs_cons (pg_name (i := 2) scReadUnk.nd rfl (.inl rfl)) pgs_nil))))
      (pss_cons (ps_if (PW.pt (pw_or (pt_not (pt_val (pe_callB call_isi (by rfl) T.isinstance (by decide +kernel) (pa_cons (pv 1) (pa_cons (pe_bltn (v := .ty "str") (by rfl) T.str (by decide +kernel) rfl) pa_nil))))) (pw_or1 (pt_cmpR (op_notIn_kd kd) (pv 1) (pe_glob (v := .ref d0) rfl R.g rfl) (by rfl))))) (pss_one (ps_ret pe_non)) pss_nil)
      (pss_cons (ps_if (pt_cmpR op_eq (pv 1) pe_str (nomark _)) (pss_one (ps_set (i := 3) scReadUnk.nd rfl (.inl rfl) (pe_and (pe_callH G2 hr (by rfl) pass0 (pa_cons (pv 2) pa_nil)) (pe_one (pe_cmpR op_ge (pv 2) pe_int (nomark _)))))) (pss_one (ps_set (i := 3) scReadUnk.nd rfl (.inl rfl) (pe_callH G3 hr (by rfl) pass0 (pa_cons (pv 2) pa_nil)))))
      (pss_one (ps_ret (pe_ifExp (pt_val (pv 3)) (pe_tup (pa_cons (pv 1) (pa_cons (pv 2) pa_nil))) pe_non))))))), ?_⟩
    refine ⟨_, rfl, v, d, 2, rfl, th, fun H1 sm1 => ⟨_, rfl, ?_⟩⟩
    have th1 := th_same sm1 th
    cases e : isRof d 2 with
    | false =>
      refine iteT ?_
      refine q _ _ sm1 ?_
      have z : readUnk d = none := by
        unfold readUnk
        split
        · rename_i k o
          revert e
          simp [isRof, items]
        · rename_i k o
          revert e
          simp [isRof, items]
        · rfl
      rw [z]
      rfl
    | true =>
      refine iteF ?_
      obtain ⟨x, y, ei, er, shp⟩ : ∃ x y, items d = some [x, y] ∧ (∀ o, readUnk (.tuple [x, y]) = o → readUnk d = o) ∧ (shortS x ∧ shortS y) := by
        have two : ∀ {xs : List PyData}, ((xs.length : Int) = 2) → ∃ x y, xs = [x, y] := fun {xs} e' => by
          match xs, e' with
          | [x, y], _ => exact ⟨x, y, rfl⟩
          | [], z => exact absurd z (by decide)
          | [_], z => exact absurd z (by simp)
          | _ :: _ :: _ :: _, z => simp at z; omega
        unfold isRof at e
        cases d with
        | tuple xs =>
          obtain ⟨x, y, rfl⟩ := two (of_decide_eq_true e)
          exact ⟨x, y, rfl, fun o h => h, sh⟩
        | list xs =>
          obtain ⟨x, y, rfl⟩ := two (of_decide_eq_true e)
          refine ⟨x, y, rfl, fun o h => ?_, sh⟩
          rw [← h]
          unfold readUnk
          cases x <;> rfl
        | none => cases e
        | bool b => cases e
        | int i => cases e
        | str s => cases e
        | dict k => cases e
      obtain ⟨a, xs, rfl, hs, ha⟩ := th_row th1 ei
      cases ha with
      | cons h1 h2 =>
      cases h2 with
      | cons h2 h3 =>
      cases h3
      rename_i v1 v2
      have unp : ∀ {D : L2.St → Hp → Prop}, D ([some (V.ref a), some v1, some v2, none] : L2.St) H1 → gRow K 2 (gCons (gName 1) (gCons (gName 2) gNil)) (.ref a) [some (V.ref a), none, none, none] H1 D := fun {D} h => by
        rcases hs with hs | hs
        · exact .inr ⟨a, _, rfl, hs, rfl, v1, _, rfl, v2, _, rfl, rfl, h⟩
        · exact .inl ⟨a, _, rfl, hs, rfl, v1, _, rfl, v2, _, rfl, rfl, h⟩
      refine ⟨_, rfl, unp ?_⟩
      refine ⟨_, rfl, v1, _, _, _, _, rfl, .ty "str", th_ty (.dat h1), kit_str x, _, rfl, ?_⟩
      cases x with
      | str k =>
        cases h1
        refine iteF ?_
        cases e2 : rank k with
        | none =>
          refine ⟨_, rfl, k, _, rfl, rfl, R.no k e2, _, rfl, iteT ?_⟩
          refine q _ _ sm1 ?_
          have z : readUnk (.tuple [.str k, y]) = none := by
            show unkOf k y = none
            unfold unkOf
            rw [e2]
            rfl
          rw [er _ z]
          rfl
        | some i =>
          obtain ⟨t, ht⟩ := R.has k i e2
          refine ⟨_, rfl, k, _, rfl, rfl, ht, _, rfl, iteF ?_⟩
          have ez : readUnk (.tuple [.str k, y]) = (ofKey k y).map fun z => [.inr k, z] := by
            show unkOf k y = _
            unfold unkOf
            rw [e2]
            rfl
          rw [er _ ez] at q
          have fin : ∀ (b : Bool) (H2 : Hp), Same H1 H2 → (b = true → ∃ z, v2 = kV z ∧ ofKey k y = some z) → (b = false → ofKey k y = none) →
              tRet (tIf (tB (tVar 3)) (tTup (tCons (tVar 1) (tCons (tVar 2) tNil))) (tC .non)) { nx := fun _ H' => Q .non H', rt := Q } [some (.ref a), some (.str k), some v2, some (.bl b)] H2 := by
            intro b H2 sm2 ht hf
            refine ⟨_, rfl, _, rfl, ?_⟩
            cases b with
            | true =>
              obtain ⟨z, rfl, ez⟩ := ht rfl
              refine iteT ⟨_, rfl, _, rfl, (by show 2 ≤ sizeLine; decide), fun p hp => ?_⟩
              refine q _ _ ((sm1.trans sm2).trans (same_new hp)) ?_
              rw [ez]
              exact ⟨p, rfl, upd_same⟩
            | false =>
              refine iteF ?_
              refine q _ _ (sm1.trans sm2) ?_
              rw [hf rfl]
              rfl
          refine ⟨_, rfl, rfl, _, rfl, ?_⟩
          rw [show decide (V.str k = V.str (Str.ofString "in")) = decide (k = sIn) from eq_str _ _]
          refine ite2 (fun c => ?_) (fun c => ?_)
          · have ck : k = sIn := of_decide_eq_true c
            refine ⟨_, rfl, v2, y, rfl, .dat h2, _, rfl, ?_⟩
            cases y with
            | int j =>
              cases h2
              refine iteT ⟨_, rfl, j, 1, rfl, rfl, ?_⟩
              refine fin _ _ (Same.refl _) (fun hb => ⟨.inl j, rfl, ?_⟩) fun hb => ?_
              · unfold ofKey
                rw [if_pos ck]
                exact if_pos (of_decide_eq_true hb)
              · unfold ofKey
                rw [if_pos ck]
                exact if_neg (of_decide_eq_false hb)
            | _ =>
              refine iteF (fin _ _ (Same.refl _) (fun hb => by cases hb) fun _ => ?_)
              unfold ofKey
              rw [if_pos ck]
          · have ck : ¬ k = sIn := fun z => c (decide_eq_true z)
            refine ⟨_, rfl, v2, y, rfl, .dat h2, shp.2, fun H2 sm2 => ?_⟩
            refine fin _ _ sm2 (fun hb => ?_) fun hb => ?_
            · cases y with
              | str s =>
                cases h2
                refine ⟨.inr s, rfl, ?_⟩
                unfold ofKey
                rw [if_neg ck]
                exact if_pos hb
              | _ => cases hb
            · cases y with
              | str s =>
                unfold ofKey
                rw [if_neg ck]
                exact if_neg (by intro z; rw [show isNm (.str s) = isNmS s from rfl, z] at hb; cases hb)
              | _ =>
                unfold ofKey
                rw [if_neg ck]
      | _ => exact iteT (q _ _ sm1 (by rw [er _ rfl]; rfl))
end
end DR

namespace DR
open PySem PySem.Spec PyProof.Rows L2
abbrev sOrderOf : Stmt := topS 16
theorem body_order : ∃ p1 p2 p3 p4 p5 p6 p7 p8 p9 p10 p11 k1 k2 k3, defBody sOrderOf = [.Return (some (.Tuple [.Subscript (.Name "RANKS" p1) (.Subscript (.Name "unknown" p2) (.Constant (.int 0) k1 p3) p4) p5, .Subscript (.Name "unknown" p6) (.Constant (.int 1) k2 p7) p8] k3 p9)) p10] ∧ p11 = p10 := ⟨_, _, _, _, _, _, _, _, _, _, _, _, _, _, rfl, rfl⟩
/-- what an unknown is to the sort -/
def keyD (u : List Key) : PyData := match u with
  | [.inr k, .inr s] => .tuple [.int ((rank k).getD 0), .str s]
  | [.inr k, .inl i] => .tuple [.int ((rank k).getD 0), .int i]
  | _ => .none
/-- the value of an unknown at a -/
def UnkH (h : Heap) (v : Value) (u : List Key) : Prop := ∃ a k o v1 v2, v = .ref a ∧ u = [.inr k, o] ∧ (rank k).isSome = true ∧ IsTup h a #[v1, v2] ∧ RelV (.str k) v1 ∧ RelV (kV o) v2
section
variable {P : Program} {w : World} {A : Around} {E : Value → Shared → Prop} {s : Shared} {K : PySem.W.Frag} {mg : Str → Option Value}
theorem order_pure {f d0 : Addr} {fd : FuncData} (F : Fun K "order_of" "order_of" sOrderOf f fd) (R : Ranks K w mg d0) (X : K.In s.heap) (G : s.heap.Ns mainGlobals mg) (hlim : s.heap.NoLimit) (hroom : A.depth < recursionLimit)
    {v : Value} {u : List Key} (hu : UnkH s.heap v u) : wpAny (model P w) A (call (.ref f) [v]) (PySem.W.KeyPure (keyD u) s) E s := by
  obtain ⟨oc, od, kV', doc, pm, an, cdv, ct, osl, rfl, lk, hcd⟩ := F.ex
  obtain ⟨a, k, o, v1, v2, rfl, rfl, hk, ht, r1, r2⟩ := hu
  obtain ⟨es, n, kd⟩ := R.kd
  obtain ⟨t1, rfl⟩ := r1
  obtain ⟨i, hi⟩ := Option.isSome_iff_exists.mp hk
  obtain ⟨t2, hns⟩ := R.has k i hi
  refine wpAny_call (Att.call_fn (binds := [("unknown", .ref a)]) X hlim lk hcd hroom (.of_eq rfl) (by first | rfl | decide | with_unfolding_all rfl) (fun s₁ IC => ?_) rfl rfl rfl)
  obtain ⟨h₁, tk₁, rfl⟩ := IC.toInCall.same
  have kp : ∀ b o, s.heap.get? b = some o → h₁.get? b = some o := IC.toInCall.keep
  have hn := IC.toInCall.ns
  have X₁ : K.In h₁ := X.keeps kp
  obtain ⟨p1, p2, p3, p4, p5, p6, p7, p8, p9, p10, p11, k1, k2, k3, hb, _⟩ := body_order
  rw [hb]
  refine wpAny_execs_cons (wpAny_Return_some (wpAny_Tuple_spliced ?_))
  have ld : ∀ {Q : Value → Shared → Prop} {E' : Value → Shared → Prop} {s' : Shared} {pos : Pos}, s'.heap.Ns s.heap.objs.size (bindL (envOfC "order_of" (defScope sOrderOf) s.heap.objs.size f cdv).kindOf [("unknown", .ref a)] fun _ => none) → Q (.ref a) s' →
      wpAny (model P w) (A.deeper (envOfC "order_of" (defScope sOrderOf) s.heap.objs.size f cdv)) (eval (.Name "unknown" pos) (envOfC "order_of" (defScope sOrderOf) s.heap.objs.size f cdv)) Q E' s' := fun hn h => wpAny_Name (wpAny_loadName_local rfl rfl hn (by first | rfl | with_unfolding_all rfl) h) (by decide)
  have lg : ∀ {Q : Value → Shared → Prop} {E' : Value → Shared → Prop} {s' : Shared} {pos : Pos}, s'.heap.Ns mainGlobals mg → Q (.ref d0) s' →
      wpAny (model P w) (A.deeper (envOfC "order_of" (defScope sOrderOf) s.heap.objs.size f cdv)) (eval (.Name "RANKS" pos) (envOfC "order_of" (defScope sOrderOf) s.heap.objs.size f cdv)) Q E' s' := fun hn h => Calls.Name_function_global rfl rfl (Calls.loadGlobal_global hn R.g h) (by decide)
  have G₁ : h₁.Ns mainGlobals mg := G.keeps kp
  have T₁ : IsTup h₁ a #[.str k t1, v2] := by
    obtain ⟨ot, g1, g2, g3, g4⟩ := ht
    exact ⟨ot, kp _ _ g1, g2, g3, g4⟩
  refine Calls.spliced_cons (PyProof.Rows.Subscript_ (lg G₁ (PyProof.Rows.Subscript_ (ld hn (wpAny_Constant_int (PyProof.Rows.item_tuple (j := 0) (x := .str k t1) T₁ (by decide) (by decide) rfl rfl ?_))))))
  have hm := PySem.W.mapOf_K (prog := P) (w := w) (h := h₁) X₁ kd.at_ kd.lit
  refine tail_any hm.typeIs slot_dict_getitem.lookup (wpAny_getItem_of (strKind_is P w k t1) hm (PySem.W.find_K kd.at_ hns) ?_) (by with_unfolding_all rfl)
  refine Calls.spliced_cons (PyProof.Rows.Subscript_ (ld hn (wpAny_Constant_int (PyProof.Rows.item_tuple (j := 1) (x := v2) T₁ (by decide) (by decide) rfl rfl ?_))))
  refine Calls.spliced_nil ⟨by show 2 ≤ sizeLine; decide, ?_⟩
  have push : ∀ b o, s.heap.get? b = some o → (h₁.push { cls := .type "tuple", data := .seq ([Value.int i t2, v2] : List Value).toArray }).get? b = some o := fun b o e => Heap.get?_push_of_some _ (kp b o e)
  have rd : ∀ (d : PyData), Reads (h₁.push { cls := .type "tuple", data := .seq ([Value.int i t2, v2] : List Value).toArray }) v2 d [] → Reads (h₁.push { cls := .type "tuple", data := .seq ([Value.int i t2, v2] : List Value).toArray }) (.ref h₁.objs.size) (.tuple [.int i, d]) [] := fun d hd =>
    .tuple (as := [] ++ ([] ++ [])) (Heap.get?_push_size _ rfl) rfl rfl (.cons (.int i t2) (.cons hd .nil))
  refine ⟨_, _, rfl, push, ?_⟩
  cases o with
  | inl j =>
    obtain ⟨t, rfl⟩ := r2
    show Reads _ _ (.tuple [.int ((rank k).getD 0), .int j]) []
    rw [hi]
    exact rd _ (.int j t)
  | inr z =>
    obtain ⟨t, rfl⟩ := r2
    show Reads _ _ (.tuple [.int ((rank k).getD 0), .str z]) []
    rw [hi]
    exact rd _ (.str z t)
end
end DR

namespace DR
open PySem PySem.Spec PyProof.Rows L2
/-- an unknown: of a kind, with a number where the kind is "in" -/
def NmU (u : List Key) : Prop := ∃ k o, u = [.inr k, o] ∧ (rank k).isSome = true ∧ ((∃ i, o = .inl i) ↔ k = sIn)
/-- an unknown at a value -/
def UnkAt (H : Hp) (y : V) (u : List Key) : Prop := ∃ a, y = .ref a ∧ H a = some (.tup (u.map kV))
def le2 : List Key → List Key → Bool := PySem.W.dataLe false keyD
/-- what stands behind the kind -/
def kD : Key → PyData
  | .inl i => .int i
  | .inr s => .str s
theorem keyD_is (k : Str) (o : Key) : keyD [.inr k, o] = .tuple [.int ((rank k).getD 0), kD o] := by
  cases o <;> rfl
theorem keyD_nm {u : List Key} (h : NmU u) : ∃ i z, keyD u = .tuple [.int i, kD z] := by
  obtain ⟨k, o, rfl, _⟩ := h
  exact ⟨_, o, keyD_is k o⟩
theorem rank_inj {k k' : Str} (h : (rank k).isSome = true) (h' : (rank k').isSome = true) (e : (rank k).getD 0 = (rank k').getD 0) : k = k' := by
  revert e h h'
  unfold rank
  by_cases c : k = sPiece
  · rw [if_pos c]
    by_cases c' : k' = sPiece
    · exact fun _ _ _ => c.trans c'.symm
    · rw [if_neg c']
      by_cases d' : k' = sName
      · rw [if_pos d']
        exact fun _ _ e => absurd e (by decide)
      · rw [if_neg d']
        by_cases e' : k' = sIn
        · rw [if_pos e']
          exact fun _ _ e => absurd e (by decide)
        · rw [if_neg e']
          exact fun _ z _ => absurd z (by decide)
  · rw [if_neg c]
    by_cases d : k = sName
    · rw [if_pos d]
      by_cases c' : k' = sPiece
      · rw [if_pos c']
        exact fun _ _ e => absurd e (by decide)
      · rw [if_neg c']
        by_cases d' : k' = sName
        · exact fun _ _ _ => d.trans d'.symm
        · rw [if_neg d']
          by_cases e' : k' = sIn
          · rw [if_pos e']
            exact fun _ _ e => absurd e (by decide)
          · rw [if_neg e']
            exact fun _ z _ => absurd z (by decide)
    · rw [if_neg d]
      by_cases e0 : k = sIn
      · rw [if_pos e0]
        by_cases c' : k' = sPiece
        · rw [if_pos c']
          exact fun _ _ e => absurd e (by decide)
        · rw [if_neg c']
          by_cases d' : k' = sName
          · rw [if_pos d']
            exact fun _ _ e => absurd e (by decide)
          · rw [if_neg d']
            by_cases e' : k' = sIn
            · exact fun _ _ _ => e0.trans e'.symm
            · rw [if_neg e']
              exact fun _ z _ => absurd z (by decide)
      · rw [if_neg e0]
        exact fun z _ _ => absurd z (by decide)
theorem same_key {k k' : Str} {o o' : Key} (h : (∃ i, o = .inl i) ↔ k = sIn) (h' : (∃ i, o' = .inl i) ↔ k' = sIn) (e : k = k') : PySem.W.alike (kD o) (kD o') = true := by
  subst e
  cases o with
  | inl i =>
    obtain ⟨j, rfl⟩ := h'.mpr (h.mp ⟨i, rfl⟩)
    rfl
  | inr s =>
    cases o' with
    | inl j =>
      obtain ⟨i, z⟩ := h.mpr (h'.mp ⟨j, rfl⟩)
      cases z
    | inr s' => rfl
theorem alike_kD (o : Key) : PySem.W.alike (kD o) (kD o) = true := by cases o <;> rfl
theorem lay_kD (o : Key) : (kD o).plain = true := by cases o <;> rfl
theorem cmp_key {u u' : List Key} (h : NmU u) (h' : NmU u') {xs ys : List PyData} (e : keyD u = .tuple xs) (e' : keyD u' = .tuple ys) : cmpL alikeP xs ys := by
  obtain ⟨k, o, rfl, h1, h2⟩ := h
  obtain ⟨k', o', rfl, h1', h2'⟩ := h'
  rw [keyD_is] at e e'
  obtain rfl := PyData.tuple.inj e
  obtain rfl := PyData.tuple.inj e'
  refine ⟨rfl, fun z => ⟨same_key h2 h2' (rank_inj h1 h1' ?_), fun _ => trivial⟩⟩
  exact of_decide_eq_true (show decide ((rank k).getD 0 = (rank k').getD 0) = true by simpa [PyData.eqv] using z)
theorem cmp_R1 : ∀ {xs ys : List PyData}, cmpL alikeP xs ys → cmpL R1 xs ys
  | _ :: _, _ :: _, h => ⟨.inl h.1, fun e => cmp_R1 (h.2 e)⟩
  | [], _, _ => by unfold cmpL; trivial
  | _ :: _, [], _ => by unfold cmpL; trivial
theorem mix_nm {us : List (List Key)} (h : ∀ u ∈ us, NmU u) : Mix (us.map keyD) (.type "int") := by
  refine ⟨fun d hd => ?_, fun xs ys hx hy => ?_, fun d hd => ?_⟩
  · obtain ⟨u, hu, rfl⟩ := List.mem_map.mp hd
    obtain ⟨i, z, e⟩ := keyD_nm (h u hu)
    exact ⟨_, _, e, rfl⟩
  · obtain ⟨u, hu, e⟩ := List.mem_map.mp hx
    obtain ⟨u', hu', e'⟩ := List.mem_map.mp hy
    exact cmp_R1 (cmp_key (h u hu) (h u' hu') e e')
  · obtain ⟨u, hu, rfl⟩ := List.mem_map.mp hd
    obtain ⟨i, z, e⟩ := keyD_nm (h u hu)
    rw [e]
    have := lay_kD z
    simp [PyData.plain, PyData.plainAll, this]
theorem self_nm {us : List (List Key)} (h : ∀ u ∈ us, NmU u) : ∀ d ∈ us.map keyD, PySem.W.alike d d = true := fun d hd => by
  obtain ⟨u, hu, rfl⟩ := List.mem_map.mp hd
  obtain ⟨i, z, e⟩ := keyD_nm (h u hu)
  rw [e]
  have := alike_kD z
  simp [PySem.W.alike, PySem.W.alikeAll, this]
/-- sorted(xs, key=order_of), the items unknowns by names -/
def rSortedUnk (K : PySem.W.Frag) (f : Addr) : List V → List V → Hp → VK → Prop := fun vs zs H Q => ∃ (a : Addr) (xs : List V) (us : List (List Key)), vs = [.ref a] ∧ zs = [.ref f] ∧ SqL K H a xs ∧ PySem.W.EachIs (UnkAt H) xs us ∧ (∀ u ∈ us, NmU u) ∧
  ∀ (ys : List V) (p : Addr), PySem.W.EachIs (UnkAt H) ys (us.mergeSort le2) → H p = none → Q (.ref p) (upd H p (.lst ys))
theorem unkH_of {X : Cx} {pins : List (Addr × Obj)} {σ : L2.St} {H : Hp} {s : Shared} (I : Inv X pins σ H s) {y : V} {v : Value} {u : List Key} (r : L2.RelV y v) (h : UnkAt H y u) (n : NmU u) : UnkH s.heap v u := by
  obtain ⟨a, rfl, ha⟩ := h
  obtain ⟨k, z, rfl, hk, _⟩ := n
  cases r
  obtain ⟨_, its, rv, o, h1, h2, m, h3⟩ := (show ObjOk X.prog X.w H s.heap a (.tup [V.str k, kV z]) from I.hok a _ ha)
  cases rv with
  | cons r1 rv => cases rv with
    | cons r2 rv =>
      cases rv
      rename_i w1 w2
      exact ⟨a, k, z, w1, w2, rfl, rfl, hk, ⟨o, h1, h2, m, h3⟩, r1, r2⟩
theorem unkH_keeps {h h' : Heap} {v : Value} {u : List Key} (k : ∀ b o, h.get? b = some o → h'.get? b = some o) (x : UnkH h v u) : UnkH h' v u := by
  obtain ⟨a, k1, o, v1, v2, e1, e2, hk, ⟨ot, g1, g2, g3⟩, r1, r2⟩ := x
  exact ⟨a, k1, o, v1, v2, e1, e2, hk, ⟨ot, k _ _ g1, g2, g3⟩, r1, r2⟩
theorem each_vals {H : Hp} : ∀ {xs : List V} {its : List Value} {us : List (List Key)}, PySem.W.EachIs (UnkAt H) xs us → Vals xs its → PySem.W.EachIs (fun v u => ∃ y, L2.RelV y v ∧ UnkAt H y u) its us
  | _, _, _, .nil, .nil => .nil
  | _, _, _, .cons h t, .cons r rt => .cons ⟨_, r, h⟩ (each_vals t rt)
theorem each_back {H : Hp} : ∀ {its : List Value} {us : List (List Key)}, PySem.W.EachIs (fun v u => ∃ y, L2.RelV y v ∧ UnkAt H y u) its us → ∃ ys, Vals ys its ∧ PySem.W.EachIs (UnkAt H) ys us
  | _, _, .nil => ⟨[], .nil, .nil⟩
  | _, _, .cons ⟨y, r, h⟩ t => by
    obtain ⟨ys, r1, h1⟩ := each_back t
    exact ⟨y :: ys, .cons r r1, .cons h h1⟩
theorem cr_sortedUnk {X : Cx} {k : Nat} {f d0 : Addr} {fd : FuncData} (hr : Room k X.A) (F : Fun X.K "order_of" "order_of" sOrderOf f fd) (R : Ranks X.K X.w X.mg d0) : CallRK X (.builtin "sorted") [Str.ofString "key"] (rSortedUnk X.K f) := by
  intro pins s σ H vs zs us' ws Q I r rz h
  obtain ⟨a, xs, us, rfl, rfl, hs, he, hn, q⟩ := h
  obtain rfl := Vals.ref1 r
  obtain ⟨w1, rfl, e1⟩ := vals1 rz
  obtain rfl : w1 = Value.ref f := e1
  obtain ⟨its, rv, hl, hz⟩ := I.list hs
  have hu := each_vals he rv
  have hlen : us.length ≤ sizeLine := by
    rw [← he.length]
    exact hz
  refine sorted_key_mix (bs := us) (R := fun v u => ∃ y, L2.RelV y v ∧ UnkAt H y u) (f := .ref f) keyD hl.isList hu (self_nm hn) (mix_nm hn) (by decide) hlen (fun u hu => ?_) (ksk_s1 _ _) (fun _ => ksk_l1 _ _) (fun x => ksk_t1 f x) (fun v u hR hu h tk kp => ?_) fun out c h' tk kp hf hg hol ho => ?_
  · obtain ⟨i, z, e⟩ := keyD_nm (hn u hu)
    have hd : (keyD u).depth ≤ 5 := by
      rw [e]
      have z0 : (kD z).depth = 0 := by cases z <;> simp [kD, PyData.depth]
      simp [PyData.depth, PyData.depthAll, z0]
    have := hr.units
    omega
  · obtain ⟨y, ry, hy⟩ := hR
    have hd : X.A.in1.in1.depth < recursionLimit := hr.depth
    exact order_pure (s := { s with heap := h, toks := tk }) F R (I.kIn.keeps kp) ((I.mod.glob.keeps I.bk).keeps kp) (I.nolimit.keeps kp) hd (unkH_keeps kp (unkH_of I ry hy (hn u hu)))
  · obtain ⟨ys, rv', hy⟩ := each_back ho
    have hlen' : ys.length ≤ sizeLine := by
      rw [rv'.length, hol]
      exact hlen
    exact ⟨.ref (s.heap.objs.size + 1), upd H (s.heap.objs.size + 1) (.lst ys), I.laid (t' := tk) kp (Nat.le_succ _) ⟨hlen', out, c, rv', hg⟩, rfl, q ys _ hy (I.hok.fresh (Nat.le_succ _))⟩
end DR

namespace DR
open PySem PySem.Spec PyProof.Rows L2
/-! ### sums -/
def keyDat : Key → PyData
  | .inl i => .int i
  | .inr s => .str s
def unkD (u : List Key) : PyData := .tuple (u.map keyDat)
def partD (p : List Key × Int) : PyData := .tuple [unkD p.1, .int p.2]
def sumD (n : Int) (ps : List (List Key × Int)) : PyData := .tuple [.int n, .tuple (ps.map partD)]
abbrev Mul := List (List Key × Int)
def vKv (kvs : Mul) : List (List Key × V) := kvs.map fun p => (p.1, V.int p.2)
def getI (kvs : Mul) (u : List Key) : Int := ((kvs.find? fun kv => decide (kv.1 = u)).map (·.2)).getD 0
def keysN (kvs : Mul) : List (List Key) := (kvs.map (·.1)).filter fun u => !decide (getI kvs u = 0)
def form (kvs : Mul) : Mul := ((keysN kvs).mergeSort le2).map fun u => (u, getI kvs u)
theorem valV_kv (kvs : Mul) (u : List Key) : valV (vKv kvs) u = (kvs.find? fun kv => decide (kv.1 = u)).map fun kv => V.int kv.2 := by
  unfold valV vKv
  rw [List.find?_map]
  simp [Function.comp_def]
theorem valV_mem {kvs : Mul} {u : List Key} (h : u ∈ kvs.map (·.1)) : valV (vKv kvs) u = some (.int (getI kvs u)) := by
  rw [valV_kv]
  unfold getI
  cases e : kvs.find? fun kv => decide (kv.1 = u) with
  | some p => rfl
  | none =>
    obtain ⟨p, hp, rfl⟩ := List.mem_map.mp h
    have z := List.find?_eq_none.mp e p hp
    simp at z
theorem dp_key {K : PySem.W.Frag} {H : Hp} (k : Key) : Dp K H (kV k) (keyDat k) := by
  cases k with
  | inl i => exact .int i
  | inr s => exact .str s
theorem dps_keys {K : PySem.W.Frag} {H : Hp} : ∀ u : List Key, DpAll K H (u.map kV) (u.map keyDat)
  | [] => .nil
  | k :: u => .cons (dp_key k) (dps_keys u)
theorem dp_unk {K : PySem.W.Frag} {H : Hp} {y : V} {u : List Key} (h : UnkAt H y u) : Dp K H y (unkD u) := by
  obtain ⟨a, rfl, ha⟩ := h
  exact .tup (SqT.of ha) (dps_keys u)
theorem unkAt_same {H H' : Hp} (e : Same H H') {y : V} {u : List Key} (h : UnkAt H y u) : UnkAt H' y u := by
  obtain ⟨a, rfl, ha⟩ := h
  exact ⟨a, rfl, e _ _ ha⟩
theorem each_same {H H' : Hp} (e : Same H H') : ∀ {ys : List V} {us : List (List Key)}, PySem.W.EachIs (UnkAt H) ys us → PySem.W.EachIs (UnkAt H') ys us
  | _, _, .nil => .nil
  | _, _, .cons h t => .cons (unkAt_same e h) (each_same e t)
theorem each_get {H : Hp} : ∀ {ys : List V} {us : List (List Key)}, PySem.W.EachIs (UnkAt H) ys us → ∀ {i : Nat} {y : V}, ys[i]? = some y → ∃ u, us[i]? = some u ∧ UnkAt H y u
  | _, _, .nil, i, y, h => by simp at h
  | _, _, .cons h t, 0, y, e => by
    obtain rfl : _ = y := Option.some.inj e
    exact ⟨_, rfl, h⟩
  | _, _, .cons h t, i + 1, y, e => each_get t (i := i) e
theorem each_snoc {H : Hp} {y : V} {u : List Key} (h : UnkAt H y u) : ∀ {ys : List V} {us : List (List Key)}, PySem.W.EachIs (UnkAt H) ys us → PySem.W.EachIs (UnkAt H) (ys ++ [y]) (us ++ [u])
  | _, _, .nil => .cons h .nil
  | _, _, .cons g t => .cons g (each_snoc h t)
theorem dps_snoc {K : PySem.W.Frag} {H : Hp} {y : V} {d : PyData} (h : Dp K H y d) : ∀ {ys : List V} {ds : List PyData}, DpAll K H ys ds → DpAll K H (ys ++ [y]) (ds ++ [d])
  | _, _, .nil => .cons h .nil
  | _, _, .cons g t => .cons g (dps_snoc h t)
/-- tuples stay -/
def TupS (H H' : Hp) : Prop := ∀ a xs, H a = some (.tup xs) → H' a = some (.tup xs)
theorem TupS.of {H H' : Hp} (e : Same H H') : TupS H H' := fun _ _ h => e _ _ h
theorem TupS.trans {H H' H2 : Hp} (e : TupS H H') (f : TupS H' H2) : TupS H H2 := fun a xs h => f a xs (e a xs h)
theorem TupS.refl (H : Hp) : TupS H H := fun _ _ h => h
theorem TupS.put {H : Hp} {S : Addr} {o o' : HO} (hS : H S = some o) (ho : ∀ xs, o ≠ .tup xs) : TupS H (upd H S o') := fun a xs h => by
  have ne : a ≠ S := fun z => by
    rw [z, hS] at h
    exact ho xs (Option.some.inj h)
  rw [upd_ne ne]
  exact h
theorem eachs_snoc {α β : Type} {R : α → β → Prop} {y : α} {u : β} (h : R y u) : ∀ {ys : List α} {us : List β}, PySem.W.EachIs R ys us → PySem.W.EachIs R (ys ++ [y]) (us ++ [u])
  | _, _, .nil => .cons h .nil
  | _, _, .cons g t => .cons g (eachs_snoc h t)
theorem eachs_imp {α β : Type} {R S : α → β → Prop} (f : ∀ a b, R a b → S a b) : ∀ {as : List α} {bs : List β}, PySem.W.EachIs R as bs → PySem.W.EachIs S as bs
  | _, _, .nil => .nil
  | _, _, .cons h t => .cons (f _ _ h) (eachs_imp f t)
theorem eachs_get {α β : Type} {R : α → β → Prop} : ∀ {ys : List α} {us : List β}, PySem.W.EachIs R ys us → ∀ {i : Nat} {y : α}, ys[i]? = some y → ∃ u, us[i]? = some u ∧ R y u
  | _, _, .nil, i, y, h => by simp at h
  | _, _, .cons h t, 0, y, e => by
    obtain rfl : _ = y := Option.some.inj e
    exact ⟨_, rfl, h⟩
  | _, _, .cons h t, i + 1, y, e => eachs_get t (i := i) e
/-- a part of a sum, a sum: all of tuples -/
def PartT (H : Hp) (v : V) (q : List Key × Int) : Prop := ∃ c e, v = .ref c ∧ H c = some (.tup [.ref e, .int q.2]) ∧ H e = some (.tup (q.1.map kV))
def SumT (H : Hp) (v : V) (n : Int) (ps : Mul) : Prop := ∃ a b xs, v = .ref a ∧ H a = some (.tup [.int n, .ref b]) ∧ H b = some (.tup xs) ∧ PySem.W.EachIs (PartT H) xs ps
theorem partT_s {H H' : Hp} (e : TupS H H') {v : V} {q : List Key × Int} (h : PartT H v q) : PartT H' v q := by
  obtain ⟨c, k, h1, h2, h3⟩ := h
  exact ⟨c, k, h1, e _ _ h2, e _ _ h3⟩
theorem sumT_s {H H' : Hp} (e : TupS H H') {v : V} {n : Int} {ps : Mul} (h : SumT H v n ps) : SumT H' v n ps := by
  obtain ⟨a, b, xs, h1, h2, h3, h4⟩ := h
  exact ⟨a, b, xs, h1, e _ _ h2, e _ _ h3, eachs_imp (fun _ _ => partT_s e) h4⟩
theorem parts_dp {K : PySem.W.Frag} {H : Hp} : ∀ {xs : List V} {ps : Mul}, PySem.W.EachIs (PartT H) xs ps → DpAll K H xs (ps.map partD)
  | _, _, .nil => .nil
  | _, _, .cons h t => by
    obtain ⟨c, e, rfl, h2, h3⟩ := h
    exact .cons (.tup (SqT.of h2) (.cons (dp_unk ⟨e, rfl, h3⟩) (.cons (.int _) .nil))) (parts_dp t)
theorem sumT_dp {K : PySem.W.Frag} {H : Hp} {v : V} {n : Int} {ps : Mul} (h : SumT H v n ps) : Dp K H v (sumD n ps) := by
  obtain ⟨a, b, xs, rfl, h2, h3, h4⟩ := h
  exact .tup (SqT.of h2) (.cons (.int n) (.cons (.tup (SqT.of h3) (parts_dp h4)) .nil))
def spOneForm (K : PySem.W.Frag) : Sp := fun vs H Q _ => ∃ (n : Int) (d : Addr) (kvs : Mul), vs = [.int n, .ref d] ∧ H d = some (.dT (vKv kvs)) ∧ (∀ u ∈ kvs.map (·.1), NmU u) ∧ kvs.length ≤ 1000 ∧
  ∀ v H', Same H H' → SumT H' v n (form kvs) → Q v H'
/-- a heap without the object at D -/
def wo (H : Hp) (D : Addr) : Hp := fun b => if b = D then none else H b
theorem wo_ne {H : Hp} {D b : Addr} (h : b ≠ D) : wo H D b = H b := if_neg h
theorem wo_same {H : Hp} {D : Addr} : Same (wo H D) H := fun b o e => by
  by_cases h : b = D
  · rw [h] at e
    unfold wo at e
    rw [if_pos rfl] at e
    cases e
  · rw [wo_ne h] at e
    exact e
theorem wo_self {H : Hp} {D : Addr} {o : HO} : wo (upd H D o) D = wo H D := by
  funext b
  by_cases h : b = D
  · unfold wo
    rw [if_pos h, if_pos h]
  · rw [wo_ne h, wo_ne h, upd_ne h]
theorem wo_new {H : Hp} {D T : Addr} {o : HO} (hT : H T = none) (h : T ≠ D) : Same (wo H D) (wo (upd H T o) D) := fun b x e => by
  have e2 : H b = some x := wo_same b x e
  have hb : b ≠ D := fun z => by
    rw [z] at e
    unfold wo at e
    rw [if_pos rfl] at e
    cases e
  rw [wo_ne hb, upd_ne (ne_of_none e2 hT)]
  exact e2
abbrev sOneForm : Stmt := topS 17
theorem scOneForm : FnScope ["number", "multiples", "held", "unknown"] ["number", "multiples"] (defScope sOneForm) := ⟨rfl, rfl, rfl, by decide +kernel, rfl, by decide +kernel, by decide +kernel⟩
theorem sz1000 {n : Nat} (h : n ≤ 1000) : n ≤ sizeLine := Nat.le_of_lt (small1000 h)
theorem unkAt_upd {H : Hp} {D : Addr} {l : List V} {o : HO} (hD : H D = some (.lst l)) {y : V} {u : List Key} (h : UnkAt H y u) : UnkAt (upd H D o) y u := by
  obtain ⟨a, rfl, ha⟩ := h
  refine ⟨a, rfl, ?_⟩
  rw [upd_ne (ne_of ha hD (by intro z; cases z))]
  exact ha
theorem each_upd {H : Hp} {D : Addr} {l : List V} {o : HO} (hD : H D = some (.lst l)) : ∀ {ys : List V} {us : List (List Key)}, PySem.W.EachIs (UnkAt H) ys us → PySem.W.EachIs (UnkAt (upd H D o)) ys us
  | _, _, .nil => .nil
  | _, _, .cons h t => .cons (unkAt_upd hD h) (each_upd hD t)
theorem each_len {H : Hp} {ys : List V} {us : List (List Key)} (h : PySem.W.EachIs (UnkAt H) ys us) : ys.length = us.length := h.length
theorem mem_sort {us : List (List Key)} {u : List Key} (h : u ∈ us.mergeSort le2) : u ∈ us := (List.mergeSort_perm us le2).mem_iff.mp h
section
variable {P : Program} {w : World} {K : PySem.W.Frag} {mg : Str → Option Value} {base : Heap}
theorem ok_oneForm {f fO d0 : Addr} {fd fdO : FuncData} (F : Fun K "one_form" "one_form" sOneForm f fd) (T : Bi mg) (R : Ranks K w mg d0) (FO : Fun K "order_of" "order_of" sOrderOf fO fdO) (gO : mg "order_of" = some (.ref fO)) :
    FnOk P w K mg base CX0 2 f fd ["number", "multiples"] (spOneForm K) := by
  refine F.ok scOneForm (fun vs H Q E h => ?_) (fun cdv A outer s H vs Q E hr h => ?_)
  · obtain ⟨n, d, kvs, rfl, _⟩ := h
    rfl
  · obtain ⟨n, d, kvs, rfl, hd, hn, hl, q⟩ := h
    have hu := hu_of hr
    refine ⟨_, pss_cons (ps_set (i := 2) scOneForm.nd rfl (.inl rfl) (pe_callBK (cr_sortedUnk hr FO R) (by rfl) T.sorted (by decide +kernel) (pa_cons (pe_lock (pe_lc (own := [("unknown", 3)]) (g := gName 3) (tt := _) rfl scOneForm.nd (pi_keys (pv 1)) (blkOk_by (N := ["number", "multiples", "held", "unknown"]) (sc := defScope sOneForm) (by decide +kernel)) (fun _ _ _ _ _ => pg_name (i := 3) scOneForm.nd rfl (.inl rfl)) (fun _ _ _ _ _ => pts_one (pt_cmpR op_ne (pe_dget hu (pv 1) (pv 3) (fun _ _ => rfl)) pe_int (nomark _))) (fun _ _ _ _ _ => (pv 3)))) pa_nil) (pk_cons (pe_glob (v := .ref fO) rfl gO rfl) pk_nil)))
      (pss_one (ps_ret (pe_tup (pa_cons (pv 0) (pa_cons (pe_callTy call_tuple_of (by rfl) T.tuple (by decide +kernel) (pa_cons (pe_lc (own := [("unknown", 3)]) (g := gName 3) (tt := tYes) rfl scOneForm.nd (pi_list (pv 2)) (blkOk_by (N := ["number", "multiples", "held", "unknown"]) (sc := defScope sOneForm) (by decide +kernel)) (fun _ _ _ _ _ => pg_name (i := 3) scOneForm.nd rfl (.inl rfl)) (fun _ _ _ _ _ => pts_nil) (fun _ _ _ _ _ => (pe_tup (pa_cons (pv 3) (pa_cons (pe_dget hu (pv 1) (pv 3) (fun _ _ => rfl)) pa_nil))))) pa_nil)) pa_nil))))), ?_⟩
    refine ⟨d, _, hd, trivial, fun od => ⟨_, rfl, d, od, rfl, .inr ⟨_, upd_same, fun D hD => ?_⟩⟩⟩
    have lenK : (vKv kvs).length = kvs.length := List.length_map _
    have hDd : D ≠ d := by
      intro z
      rw [z, upd_same] at hD
      cases hD
    have hDn : H D = none := by
      rw [upd_ne hDd] at hD
      exact hD
    refine lc_it walk_keysT (fun i H1 => (∀ b o, b ≠ D → upd H d (.frz od (.dT (vKv kvs))) b = some o → H1 b = some o) ∧ ∃ ys, H1 D = some (.lst ys) ∧ ys.length ≤ i ∧ PySem.W.EachIs (UnkAt H1) ys (((kvs.take i).map (·.1)).filter fun u => !decide (getI kvs u = 0)))
      ⟨fun b o hb e => by rw [upd_ne hb]; exact e, [], upd_same, Nat.le_refl _, .nil⟩ (fun i H1 _ ⟨kp, _⟩ => kp _ _ hDd.symm upd_same) ?_ ?_
    · rintro i x H1 H1' hi ⟨kp, ys, hD1, hlen, he⟩ ⟨rfl, k, v, qa, hk, rfl, hq⟩
      have hi' : i < kvs.length := by rw [lenK] at hi; exact hi
      obtain ⟨⟨k0, m⟩, hm⟩ : ∃ p, kvs[i]? = some p := ⟨kvs[i], List.getElem?_eq_getElem hi'⟩
      have hk2 : (k, v) = (k0, V.int m) := by
        unfold vKv at hk
        rw [List.getElem?_map, hm] at hk
        exact (Option.some.inj hk).symm
      cases hk2
      have hmem : k ∈ kvs.map (·.1) := List.mem_map.mpr ⟨_, List.mem_of_getElem? hm, rfl⟩
      have hd1 : H1' d = some (.frz od (.dT (vKv kvs))) := kp _ _ hDd.symm upd_same
      have qD : qa ≠ D := ne_of hq hD1 (by intro z; cases z)
      have hqH : UnkAt H1' (.ref qa) k := ⟨qa, rfl, hq⟩
      refine ⟨rfl, _, rfl, _, rfl, d, .int (getI kvs k), rfl, .inr ⟨vKv kvs, k, qa, .inr ⟨od, hd1⟩, rfl, hq, (valV_mem hmem).symm⟩, rfl, _, rfl, ?_⟩
      rw [eq_int]
      have tk : (kvs.take (i + 1)).map (·.1) = (kvs.take i).map (·.1) ++ [k] := by
        rw [List.take_add_one, hm]
        simp
      cases c : !decide (getI kvs k = 0) with
      | true =>
        refine iteT ⟨_, rfl, ys, hD1, small1000 (by omega), fun b o hb e => ?_, ys ++ [.ref qa], upd_same, by simp; omega, ?_⟩
        · rw [upd_ne hb]
          exact kp b o hb e
        · rw [tk, List.filter_append]
          have z : [k].filter (fun u => !decide (getI kvs u = 0)) = [k] := by simp [List.filter, c]
          rw [z]
          exact each_snoc (unkAt_upd hD1 hqH) (each_upd hD1 he)
      | false =>
        refine iteF ⟨kp, ys, hD1, by omega, ?_⟩
        rw [tk, List.filter_append]
        have z : [k].filter (fun u => !decide (getI kvs u = 0)) = [] := by simp [List.filter, c]
        rw [z, List.append_nil]
        exact he
    · rintro H1 ⟨kp, ys, hD1, hlen, he⟩
      have tl : (kvs.take (vKv kvs).length) = kvs := by rw [lenK]; exact List.take_length
      rw [tl] at he
      have hd1 : H1 d = some (.frz od (.dT (vKv kvs))) := kp _ _ hDd.symm upd_same
      have sm : Same H (upd H1 d (.dT (vKv kvs))) := fun b o e => by
        by_cases hb : b = d
        · rw [hb] at e ⊢
          rw [upd_same]
          exact hd.symm.trans e
        · rw [upd_ne hb]
          refine kp b o (ne_of_none e hDn) ?_
          rw [upd_ne hb]
          exact e
      have eD : (upd H1 d (.dT (vKv kvs))) D = some (.lst ys) := by
        rw [upd_ne hDd]
        exact hD1
      have he2 : PySem.W.EachIs (UnkAt (upd H1 d (.dT (vKv kvs)))) ys (keysN kvs) := by
        have go : ∀ {zs : List V} {us : List (List Key)}, PySem.W.EachIs (UnkAt H1) zs us → PySem.W.EachIs (UnkAt (upd H1 d (.dT (vKv kvs)))) zs us := by
          intro zs us h
          induction h with
          | nil => exact .nil
          | cons h t ih =>
            obtain ⟨a, rfl, ha⟩ := h
            refine .cons ⟨a, rfl, ?_⟩ ih
            rw [upd_ne (ne_of ha hd1 (by intro z; cases z))]
            exact ha
        exact go he
      have hnK : ∀ u ∈ keysN kvs, NmU u := fun u hu => hn u (List.mem_filter.mp hu).1
      refine ⟨hd1, D, ys, keysN kvs, rfl, rfl, SqL.of eD, he2, hnK, fun zs p hz hp => ?_⟩
      generalize hH2 : upd H1 d (.dT (vKv kvs)) = H2 at sm eD he2 hp hz ⊢
      have h2d : H2 d = some (.dT (vKv kvs)) := by rw [← hH2, upd_same]
      have sm3 : Same H2 (upd H2 p (.lst zs)) := same_new hp
      have hz3 : PySem.W.EachIs (UnkAt (upd H2 p (.lst zs))) zs ((keysN kvs).mergeSort le2) := each_same sm3 hz
      have lz : zs.length = ((keysN kvs).mergeSort le2).length := hz.length
      have lz2 : zs.length ≤ 1000 := by
        rw [lz, (List.mergeSort_perm _ _).length_eq]
        unfold keysN
        refine Nat.le_trans (List.length_filter_le _ _) ?_
        rw [List.length_map]
        exact hl
      generalize hH3 : upd H2 p (.lst zs) = H3 at sm3 hz3 ⊢
      have h3d : H3 d = some (.dT (vKv kvs)) := sm3 _ _ h2d
      have h3p : H3 p = some (.lst zs) := by rw [← hH3, upd_same]
      refine ⟨_, rfl, _, rfl, p, rfl, ⟨_, SqL.of h3p⟩, fun D2 hD2 => ?_⟩
      have pD2 : p ≠ D2 := ne_of_none h3p hD2
      refine lc_it (walk_list (xs := zs)) (fun i H4 => (∀ b o, b ≠ D2 → H3 b = some o → H4 b = some o) ∧ ∃ ps, H4 D2 = some (.lst ps) ∧ ps.length = i ∧ PySem.W.EachIs (PartT H4) ps ((((keysN kvs).mergeSort le2).take i).map fun u => (u, getI kvs u)))
        ⟨fun b o hb e => by rw [upd_ne hb]; exact e, [], upd_same, rfl, .nil⟩ (fun i H4 _ ⟨kp, _⟩ => SqL.of (kp _ _ pD2 h3p)) ?_ ?_
      · rintro i x H4 H4' hi ⟨kp4, ps, h4D, hps, hdp⟩ ⟨rfl, hx⟩
        obtain ⟨u, hu1, a, rfl, ha⟩ := each_get hz3 hx
        have haD : a ≠ D2 := ne_of_none ha hD2
        have ha4 := kp4 _ _ haD ha
        have h4d := kp4 _ _ (ne_of_none h3d hD2) h3d
        have hmem : u ∈ kvs.map (·.1) := (List.mem_filter.mp (mem_sort (List.mem_of_getElem? hu1))).1
        refine ⟨rfl, yes_go (iteT ⟨_, rfl, _, rfl, _, rfl, d, .int (getI kvs u), rfl, .inr ⟨vKv kvs, u, a, .inl h4d, rfl, ha4, (valV_mem hmem).symm⟩, (by show 2 ≤ sizeLine; decide), fun t ht => ⟨ps, ?_, small1000 (by omega), ?_, ps ++ [.ref t], upd_same, by simp; omega, ?_⟩⟩)⟩
        · rw [upd_ne (ne_of_none h4D ht)]
          exact h4D
        · intro b o hb e
          rw [upd_ne hb, upd_ne (ne_of_none (kp4 b o hb e) ht)]
          exact kp4 b o hb e
        · have tD : t ≠ D2 := fun z => by rw [z, h4D] at ht; cases ht
          have ts : TupS H4' (upd (upd H4' t (.tup [.ref a, .int (getI kvs u)])) D2 (.lst (ps ++ [.ref t]))) := (TupS.of (same_new ht)).trans (TupS.put (o := .lst ps) (by
            rw [upd_ne (ne_of_none h4D ht)]
            exact h4D) (by intro xs z; cases z))
          rw [List.take_add_one, hu1]
          simp only [Option.toList_some, List.map_append, List.map_cons, List.map_nil]
          refine eachs_snoc ⟨t, a, rfl, ?_, ts _ _ ha4⟩ (eachs_imp (fun _ _ => partT_s ts) hdp)
          rw [upd_ne tD, upd_same]
      · rintro H4 ⟨kp4, ps, h4D, hps, hdp⟩
        have tl2 : ((keysN kvs).mergeSort le2).take zs.length = (keysN kvs).mergeSort le2 := by rw [lz]; exact List.take_length
        rw [tl2] at hdp
        refine ⟨D2, ps, rfl, .inl ⟨SqL.of h4D, fun l hl4 => ⟨(by show 2 ≤ sizeLine; decide), fun r hr5 => ?_⟩⟩⟩
        have s4 : Same H3 H4 := fun b o e => kp4 b o (ne_of_none e hD2) e
        have s5 := same_new (o := .tup ps) hl4
        have s6 := same_new (o := .tup [.int n, .ref l]) hr5
        refine q _ _ ((((sm.trans sm3).trans s4).trans s5).trans s6) ?_
        have el : (upd (upd H4 l (.tup ps)) r (.tup [.int n, .ref l])) l = some (.tup ps) := s6 _ _ upd_same
        exact ⟨r, l, ps, rfl, upd_same, el, eachs_imp (fun _ _ => partT_s (TupS.of (s5.trans s6))) hdp⟩
end
end DR

namespace DR
open PySem PySem.Spec PyProof.Rows L2
/-! ### a for over a list or a tuple -/
def iSeq (K : PySem.W.Frag) (tl : TE) : TI := fun σ H R => tl σ H fun x H1 => ∃ a xs, x = .ref a ∧ (SqL K H1 a xs ∨ SqT K H1 a xs) ∧ ∀ J G, Walk J xs.length G (YAt xs) → (∀ H4, (SqL K H1 a xs → SqL K H4 a xs) → (SqT K H1 a xs → SqT K H4 a xs) → G H4) → R J H1
theorem pi_seq {X : Cx} {tg l : Expr} {tl : TE} (hl : PE X l tl) : PI X tg l (iSeq X.K tl) := by
  refine ⟨fun pins s σ H R I h => ?_⟩
  refine thn (hl.run pins s σ H _ I h) fun v s1 ⟨x, H1, I1, r1, q1⟩ => ?_
  obtain ⟨a, xs, e, hq, q⟩ := q1
  subst e
  cases r1
  have fp : ∀ b ∈ [s1.heap.objs.size], FpOk X pins H1 b := fun b hb => by
    have e : b = s1.heap.objs.size := by simpa using hb
    subst e
    exact I1.fpOk (Nat.le_refl _) (I1.hok.fresh (Nat.le_refl _))
  rcases hq with hq | hq
  · obtain ⟨its, rv, p, hz⟩ := I1.list hq
    refine wpAny_pyIter_list p.isList ?_
    exact ⟨s1.heap.objs.size, [s1.heap.objs.size], _, _, H1, rfl, I1.kept (t' := s1.toks) fun b o e => Heap.get?_push_of_some _ e, turn_list a _, ⟨_, Heap.get?_push_size _ rfl, rfl, rfl⟩, fp, q _ (fun H4 => SqL X.K H4 a xs) walk_list fun H4 e _ => e hq⟩
  · obtain ⟨its, rv, p, hz⟩ := I1.tuple hq
    refine wpAny_pyIter_tuple (show s1.heap.IsTuple a its.toArray from p) ?_
    exact ⟨s1.heap.objs.size, [s1.heap.objs.size], _, _, H1, rfl, I1.kept (t' := s1.toks) fun b o e => Heap.get?_push_of_some _ e, turn_tuple a _, ⟨_, Heap.get?_push_size _ rfl, rfl, rfl⟩, fp, q _ (fun H4 => SqT X.K H4 a xs) walk_tup fun H4 _ e => e hq⟩
/-! ### the mirror of read_sum -/
def putI (kvs : Mul) (u : List Key) (m : Int) : Mul := if (kvs.any fun kv => decide (kv.1 = u)) = true then kvs.map (fun kv => if kv.1 = u then (kv.1, m) else kv) else kvs ++ [(u, m)]
theorem put_vKv (kvs : Mul) (u : List Key) (m : Int) : putK (vKv kvs) u (.int m) = vKv (putI kvs u m) := by
  unfold putK putI vKv
  have e : ((kvs.map fun p => (p.1, V.int p.2)).any fun kv => decide (kv.1 = u)) = kvs.any fun kv => decide (kv.1 = u) := by
    rw [List.any_map]
    rfl
  rw [e]
  split
  · rw [List.map_map, List.map_map]
    apply List.map_congr_left
    intro p _
    by_cases h : p.1 = u
    · simp [h]
    · simp [h]
  · simp
theorem putI_len (kvs : Mul) (u : List Key) (m : Int) : (putI kvs u m).length ≤ kvs.length + 1 := by
  unfold putI
  split
  · rw [List.length_map]; omega
  · simp
theorem putI_keys {kvs : Mul} {u : List Key} {m : Int} (hu : NmU u) (h : ∀ x ∈ kvs.map (·.1), NmU x) : ∀ x ∈ (putI kvs u m).map (·.1), NmU x := by
  intro x hx
  unfold putI at hx
  split at hx
  · rw [List.map_map] at hx
    obtain ⟨p, hp, rfl⟩ := List.mem_map.mp hx
    have e : (Prod.fst ∘ fun kv : List Key × Int => if kv.1 = u then (kv.1, m) else kv) p = p.1 := by
      show (if p.1 = u then (p.1, m) else p).1 = p.1
      split <;> rfl
    rw [e]
    exact h _ (List.mem_map.mpr ⟨p, hp, rfl⟩)
  · rw [List.map_append] at hx
    rcases List.mem_append.mp hx with hx | hx
    · exact h x hx
    · have e : x = u := by simpa using hx
      rw [e]
      exact hu
def addPart (acc : Mul) (p : PyData) : Option Mul := match items p with
  | some [x, .int m] => (readUnk x).map fun u => putI acc u (getI acc u + m)
  | _ => none
def readParts : List PyData → Mul → Option Mul
  | [], acc => some acc
  | p :: r, acc => (addPart acc p).bind (readParts r)
theorem readParts_app : ∀ (ps qs : List PyData) (acc : Mul), readParts (ps ++ qs) acc = (readParts ps acc).bind (readParts qs)
  | [], qs, acc => rfl
  | p :: ps, qs, acc => by
    show (addPart acc p).bind (readParts (ps ++ qs)) = ((addPart acc p).bind (readParts ps)).bind (readParts qs)
    cases e : addPart acc p with
    | none => rfl
    | some a => exact readParts_app ps qs a
def readSum (d : PyData) : Option (Int × Mul) := match d with
  | .int n => some (n, [])
  | d => match items d with
    | some [.int n, q] => (items q).bind fun ds => (readParts ds []).map fun kvs => (n, form kvs)
    | _ => none
def okPart (p : PyData) : Prop := ∀ x m, items p = some [x, .int m] → shortP x ∧ ∀ u, readUnk x = some u → NmU u
def okSum (d : PyData) : Prop := ∀ n q ds, items d = some [.int n, q] → items q = some ds → ds.length ≤ 1000 ∧ ∀ p ∈ ds, okPart p
def SumV (K : PySem.W.Frag) (H : Hp) (v : V) : Option (Int × Mul) → Prop
  | none => v = .non
  | some (n, ps) => SumT H v n ps
def spReadSum (K : PySem.W.Frag) : Sp := fun vs H Q _ => ∃ v d, vs = [v] ∧ Th K H v d ∧ okSum d ∧ ∀ v' H', Same H H' → SumV K H' v' (readSum d) → Q v' H'
abbrev sReadSum : Stmt := topS 18
theorem scReadSum : FnScope ["thing", "multiples", "part", "unknown"] ["thing"] (defScope sReadSum) := ⟨rfl, rfl, rfl, by decide +kernel, rfl, by decide +kernel, by decide +kernel⟩
theorem row_sq {K : PySem.W.Frag} {H H' : Hp} {a : Addr} {xs : List V} (e : Same H H') (h : SqL K H a xs ∨ SqT K H a xs) : SqL K H' a xs ∨ SqT K H' a xs := h.imp (sqL_same e) (sqT_same e)
theorem ix_row {K : PySem.W.Frag} {H : Hp} {a : Addr} {xs : List V} {i : Int} {v : V} {Q : VK} (h : SqL K H a xs ∨ SqT K H a xs) (e : atI xs i = some v) (q : Q v H) : rIx K (.ref a) (.int i) H Q := by
  rcases h with h | h
  · exact .inl ⟨a, xs, i, v, rfl, rfl, h, e, q⟩
  · exact .inr (.inl ⟨a, xs, i, v, rfl, rfl, h, e, q⟩)
theorem rd_drop {H : Hp} {D b : Addr} {o u : HO} (h : Rd (upd H D o) b u) (h1 : o ≠ u) (h2 : ∀ x, o ≠ .frz x u) : Rd H b u := by
  have hb : b ≠ D := fun z => by
    rcases h with h | ⟨x, h⟩
    · rw [z, upd_same] at h
      exact h1 (Option.some.inj h)
    · rw [z, upd_same] at h
      exact h2 x (Option.some.inj h)
  rcases h with h | ⟨x, h⟩
  · rw [upd_ne hb] at h
    exact .inl h
  · rw [upd_ne hb] at h
    exact .inr ⟨x, h⟩
theorem sqL_drop {K : PySem.W.Frag} {H : Hp} {D b : Addr} {k : List (List Key × V)} {xs : List V} (h : SqL K (upd H D (.dT k)) b xs) : SqL K H b xs := by
  rcases h with h | h
  · exact .inl (rd_drop h (by intro z; cases z) (by intro x z; cases z))
  · exact .inr h
theorem sqT_drop {K : PySem.W.Frag} {H : Hp} {D b : Addr} {k : List (List Key × V)} {xs : List V} (h : SqT K (upd H D (.dT k)) b xs) : SqT K H b xs := by
  rcases h with h | h
  · exact .inl (rd_drop h (by intro z; cases z) (by intro x z; cases z))
  · exact .inr h
theorem row_drop {K : PySem.W.Frag} {H : Hp} {D b : Addr} {k : List (List Key × V)} {xs : List V} (h : SqL K (upd H D (.dT k)) b xs ∨ SqT K (upd H D (.dT k)) b xs) : SqL K H b xs ∨ SqT K H b xs := h.imp sqL_drop sqT_drop
theorem dps_get {K : PySem.W.Frag} {H : Hp} : ∀ {vs : List V} {ds : List PyData}, DpAll K H vs ds → ∀ {i : Nat} {v : V}, vs[i]? = some v → ∃ d, ds[i]? = some d ∧ Dp K H v d
  | _, _, .nil, i, v, h => by simp at h
  | _, _, .cons g t, 0, v, e => by
    obtain rfl : _ = v := Option.some.inj e
    exact ⟨_, rfl, g⟩
  | _, _, .cons g t, i + 1, v, e => dps_get t (i := i) e
theorem parts_split {ds : List PyData} {i : Nat} {dp : PyData} (h : ds[i]? = some dp) : ds = ds.take i ++ dp :: ds.drop (i + 1) := by
  have hi : i < ds.length := (List.getElem?_eq_some_iff.mp h).1
  have e : ds[i] = dp := (List.getElem?_eq_some_iff.mp h).2
  rw [← e, ← List.drop_eq_getElem_cons hi]
  exact (List.take_append_drop i ds).symm
theorem parts_stop {ds : List PyData} {i : Nat} {dp : PyData} {acc : Mul} (h : ds[i]? = some dp) (h1 : readParts (ds.take i) [] = some acc) (h2 : addPart acc dp = none) : readParts ds [] = none := by
  rw [parts_split h, readParts_app, h1]
  show (addPart acc dp).bind _ = none
  rw [h2]
  rfl
theorem parts_more {ds : List PyData} {i : Nat} {dp : PyData} {acc acc' : Mul} (h : ds[i]? = some dp) (h1 : readParts (ds.take i) [] = some acc) (h2 : addPart acc dp = some acc') : readParts (ds.take (i + 1)) [] = some acc' := by
  rw [List.take_add_one, h, readParts_app, h1]
  show (addPart acc dp).bind (readParts []) = some acc'
  rw [h2]
  rfl
theorem getD_val (acc : Mul) (u : List Key) : (valV (vKv acc) u).getD (.int 0) = .int (getI acc u) := by
  rw [valV_kv]
  unfold getI
  cases acc.find? fun kv => decide (kv.1 = u) with
  | none => rfl
  | some p => rfl
/-- two items -/
theorem dps_two {K : PySem.W.Frag} {H : Hp} {xs : List V} {a b : PyData} (h : DpAll K H xs [a, b]) : ∃ x y, xs = [x, y] ∧ Dp K H x a ∧ Dp K H y b := by
  cases h with
  | cons h1 h => cases h with
    | cons h2 h =>
      cases h
      exact ⟨_, _, rfl, h1, h2⟩
theorem rof_two {d : PyData} (h : isRof d 2 = true) : ∃ a b, items d = some [a, b] := by
  unfold isRof at h
  cases e : items d with
  | none => rw [e] at h; cases h
  | some xs =>
    rw [e] at h
    have e' : ((xs.length : Int) = 2) := of_decide_eq_true h
    match xs, e' with
    | [x, y], _ => exact ⟨x, y, rfl⟩
    | [], z => exact absurd z (by decide)
    | [_], z => exact absurd z (by simp)
    | _ :: _ :: _ :: _, z => simp at z; omega
theorem rof_not {d : PyData} (h : isRof d 2 = false) : ∀ a b, items d ≠ some [a, b] := by
  intro a b e
  unfold isRof at h
  rw [e] at h
  cases h
theorem at2 {a b : V} (i : Nat) (v : V) (h : [a, b][i]? = some v) : atI [a, b] (i : Int) = some v := by
  have hi : i < 2 := (List.getElem?_eq_some_iff.mp h).1
  unfold atI ixN
  rw [if_pos (by omega), if_pos (by show (i : Int) < ((2 : Nat) : Int); omega)]
  show ([a, b] : List V)[((i : Int)).toNat]? = _
  rw [Int.toNat_natCast]
  exact h
section
variable {P : Program} {w : World} {K : PySem.W.Frag} {mg : Str → Option Value} {base : Heap}
theorem ok_readSum {f : Addr} {fd : FuncData} (F : Fun K "read_sum" "read_sum" sReadSum f fd) (G1 : Has P w K mg base CX0 3 "is_integer" ["thing"] (spIsInt K)) (G2 : Has P w K mg base CX0 3 "is_row_of" ["thing", "many"] (spIsRowOf K))
    (G3 : Has P w K mg base CX0 3 "is_row" ["thing"] (spIsRow K)) (G4 : Has P w K mg base CX0 3 "read_unknown" ["thing"] (spReadUnk K)) (G5 : Has P w K mg base CX0 3 "one_form" ["number", "multiples"] (spOneForm K)) :
    FnOk P w K mg base CX0 4 f fd ["thing"] (spReadSum K) := by
  refine F.ok scReadSum (fun vs H Q E h => ?_) (fun cdv A outer s H vs Q E hr h => ?_)
  · obtain ⟨v, d, rfl, _⟩ := h
    rfl
  · obtain ⟨v, d, rfl, th, ok, q⟩ := h
    have hu := hu_of hr
    refine ⟨_, (pss_cons (ps_if (pt_val (pe_callH G1 hr (by rfl) pass0 (pa_cons (pv 0) pa_nil))) (pss_one (ps_ret (pe_tup (pa_cons (pv 0) (pa_cons (pe_tup pa_nil) pa_nil))))) pss_nil)
      (pss_cons (ps_if (PW.pt (pw_or (pt_not (pt_val (pe_callH G2 hr (by rfl) pass0 (pa_cons (pv 0) (pa_cons pe_int pa_nil))))) (pw_or (pt_not (pt_val (pe_callH G1 hr (by rfl) pass0 (pa_cons (pe_ix ix_seq (pv 0) pe_int (fun _ _ => rfl)) pa_nil)))) (pw_or1 (pt_not (pt_val (pe_callH G3 hr (by rfl) pass0 (pa_cons (pe_ix ix_seq (pv 0) pe_int (fun _ _ => rfl)) pa_nil)))))))) (pss_one (ps_ret pe_non)) pss_nil)
      (pss_cons (ps_set (i := 1) scReadSum.nd rfl (.inl rfl) (pe_dnewT))
      (pss_cons (ps_for PassesOwn.never rfl (pi_seq (pe_ix ix_seq (pv 0) pe_int (fun _ _ => rfl))) (pg_name (i := 2) scReadSum.nd rfl (.inl rfl)) (pss_cons (ps_if (PW.pt (pw_or (pt_not (pt_val (pe_callH G2 hr (by rfl) pass0 (pa_cons (pv 2) (pa_cons pe_int pa_nil))))) (pw_or1 (pt_not (pt_val (pe_callH G1 hr (by rfl) pass0 (pa_cons (pe_ix ix_seq (pv 2) pe_int (fun _ _ => rfl)) pa_nil))))))) (pss_one (ps_ret pe_non)) pss_nil)
      (pss_cons (ps_set (i := 3) scReadSum.nd rfl (.inl rfl) (pe_callH G4 hr (by rfl) pass0 (pa_cons (pe_ix ix_seq (pv 2) pe_int (fun _ _ => rfl)) pa_nil)))
      (pss_cons (ps_if (pt_cmpR op_isN (pv 3) pe_non (nomark _)) (pss_one (ps_ret pe_non)) pss_nil)
      (pss_one (ps_dput hu (pv 1) (pv 3) (pe_op op_add (pe_dget2 hu (pv 1) (pv 3) pe_int ⟨rfl, rfl, rfl, rfl⟩) (pe_ix ix_seq (pv 2) pe_int (fun _ _ => rfl))) rfl))))))
      (pss_one (ps_ret (pe_callH G5 hr (by rfl) pass0 (pa_cons (pe_ix ix_seq (pv 0) pe_int (fun _ _ => rfl)) (pa_cons (pv 1) pa_nil))))))))), ?_⟩
    refine ⟨_, rfl, v, d, rfl, th, _, rfl, ?_⟩
    cases ei : isI d with
    | true =>
      obtain ⟨n, rfl⟩ : ∃ n, d = .int n := by
        cases d with
        | int n => exact ⟨n, rfl⟩
        | _ => cases ei
      obtain rfl : v = .int n := by
        cases th with
        | dat h => cases h; rfl
      refine iteT ⟨_, rfl, Nat.zero_le _, fun e he => ⟨(by show 2 ≤ sizeLine; decide), fun p hp => ?_⟩⟩
      refine q _ _ ((same_new he).trans (same_new hp)) ?_
      have ee : (upd (upd H e (.tup [])) p (.tup [.int n, .ref e])) e = some (.tup []) := same_new hp _ _ upd_same
      exact ⟨p, e, [], rfl, upd_same, ee, .nil⟩
    | false =>
      refine iteF ?_
      have rs : readSum d = match items d with
        | some [.int n, q] => (items q).bind fun ds => (readParts ds []).map fun kvs => (n, form kvs)
        | _ => none := by
        cases d with
        | int n => cases ei
        | _ => rfl
      refine ⟨_, rfl, v, d, 2, rfl, th, fun H1 sm1 => ⟨_, rfl, ?_⟩⟩
      cases e2 : isRof d 2 with
      | false =>
        refine iteT (q _ _ sm1 ?_)
        have z : readSum d = none := by
          rw [rs]
          split
          · rename_i n q' e
            exact absurd e (rof_not e2 _ _)
          · rfl
        rw [z]
        rfl
      | true =>
        refine iteF ?_
        obtain ⟨d1, dq, e3⟩ := rof_two e2
        obtain ⟨a, xs, rfl, hs, ha⟩ := th_row (th_same sm1 th) e3
        obtain ⟨v1, vq, rfl, h1, h2⟩ := dps_two ha
        refine ⟨_, rfl, ix_row hs (at2 0 v1 rfl) ?_⟩
        refine ⟨v1, d1, rfl, .dat h1, _, rfl, ?_⟩
        cases ei1 : isI d1 with
        | false =>
          refine iteT (q _ _ sm1 ?_)
          have z : readSum d = none := by
            rw [rs, e3]
            cases d1 with
            | int n => cases ei1
            | _ => rfl
          rw [z]
          rfl
        | true =>
          obtain ⟨n, rfl⟩ : ∃ n, d1 = .int n := by
            cases d1 with
            | int n => exact ⟨n, rfl⟩
            | _ => cases ei1
          cases h1
          rw [e3] at rs
          refine iteF ⟨_, rfl, ix_row hs (at2 1 vq rfl) ⟨vq, dq, rfl, .dat h2, fun H2 sm2 => ⟨_, rfl, ?_⟩⟩⟩
          rw [isR_items]
          cases e4 : items dq with
          | none =>
            refine iteT (q _ _ (sm1.trans sm2) ?_)
            have z : readSum d = none := by
              rw [rs]
              show (items dq).bind _ = none
              rw [e4]
              rfl
            rw [z]
            rfl
          | some ds =>
            obtain ⟨hlen, hok⟩ := ok n dq ds e3 e4
            have rs2 : readSum d = (readParts ds []).map fun kvs => (n, form kvs) := by
              rw [rs]
              show (items dq).bind _ = _
              rw [e4]
              rfl
            have hs2 := row_sq sm2 hs
            obtain ⟨b, ys, rfl, hb, hby⟩ := th_row (th_same sm2 (.dat h2)) e4
            refine iteF fun D hD => ?_
            have sm3 := sm1.trans (sm2.trans (same_new (o := .dT []) hD))
            refine ⟨_, rfl, ix_row (row_sq (same_new hD) hs2) (at2 1 _ rfl) ⟨b, ys, rfl, row_sq (same_new hD) hb, fun J G W hG => ?_⟩⟩
            have ly : ys.length = ds.length := dps_len hby
            have keyless : ∀ x ∈ ([] : Mul).map Prod.fst, NmU x := fun x hx => by simp at hx
            refine for_it W (fun i σ H4 => ∃ (acc : Mul) (p u : Option V), σ = [some (.ref a), some (.ref D), p, u] ∧ Same H2 H4 ∧ H4 D = some (.dT (vKv acc)) ∧ readParts (ds.take i) [] = some acc ∧ (∀ x ∈ acc.map Prod.fst, NmU x) ∧ acc.length ≤ i)
              ⟨[], none, none, rfl, same_new hD, upd_same, rfl, keyless, Nat.le_refl _⟩ (fun i σ H4 _ ⟨_, _, _, _, s4, _⟩ => hG H4 (fun z => sqL_same s4 (sqL_drop z)) (fun z => sqT_same s4 (sqT_drop z))) ?_ ?_
            · rintro i x σ H4 H4' hi ⟨acc, p, u, rfl, s4, hD4, hrp, hnm, hal⟩ ⟨rfl, hx⟩
              obtain ⟨dp, hdp, hxd⟩ := dps_get hby hx
              have hxd4 := dp_same s4 hxd
              have hokp := hok dp (List.mem_of_getElem? hdp)
              have stop : addPart acc dp = none → readSum d = none := by
                intro e
                rw [rs2, parts_stop hdp hrp e]
                rfl
              refine ⟨_, rfl, x, dp, 2, rfl, .dat hxd4, fun H5 s5 => ⟨_, rfl, ?_⟩⟩
              cases e5 : isRof dp 2 with
              | false =>
                refine iteT (q _ _ ((sm1.trans sm2).trans (s4.trans s5)) ?_)
                rw [stop (by
                  unfold addPart
                  split
                  · rename_i x' m' e
                    exact absurd e (rof_not e5 _ _)
                  · rfl)]
                rfl
              | true =>
                obtain ⟨pu, pm, e6⟩ := rof_two e5
                obtain ⟨c, zs, rfl, hc, hcd⟩ := th_row (.dat (dp_same s5 hxd4)) e6
                obtain ⟨w1, w2, rfl, g1, g2⟩ := dps_two hcd
                refine iteF ⟨_, rfl, ix_row hc (at2 1 w2 rfl) ⟨w2, pm, rfl, .dat g2, _, rfl, ?_⟩⟩
                cases e7 : isI pm with
                | false =>
                  refine iteT (q _ _ ((sm1.trans sm2).trans (s4.trans s5)) ?_)
                  rw [stop (by
                    unfold addPart
                    rw [e6]
                    cases pm with
                    | int m => cases e7
                    | _ => rfl)]
                  rfl
                | true =>
                  obtain ⟨m, rfl⟩ : ∃ m, pm = .int m := by
                    cases pm with
                    | int m => exact ⟨m, rfl⟩
                    | _ => cases e7
                  cases g2
                  obtain ⟨shp, hnu⟩ := hokp pu m e6
                  refine iteF ⟨_, rfl, ix_row hc (at2 0 w1 rfl) ⟨w1, pu, rfl, .dat g1, shp, fun vu H6 s6 hvu => ?_⟩⟩
                  have ea : addPart acc dp = (readUnk pu).map fun u => putI acc u (getI acc u + m) := by
                    unfold addPart
                    rw [e6]
                  cases e8 : readUnk pu with
                  | none =>
                    rw [e8] at hvu ea
                    obtain rfl : vu = .non := hvu
                    refine ⟨_, rfl, rfl, _, rfl, iteT (q _ _ ((sm1.trans sm2).trans ((s4.trans s5).trans s6)) ?_)⟩
                    rw [stop ea]
                    rfl
                  | some uu =>
                    rw [e8] at hvu ea
                    obtain ⟨au, rfl, hau⟩ := hvu
                    have hD6 : H6 D = some (.dT (vKv acc)) := s6 _ _ (s5 _ _ hD4)
                    refine ⟨_, rfl, rfl, _, rfl, iteF ?_⟩
                    refine ⟨_, rfl, D, rfl, .inr ⟨_, .inl hD6⟩, _, rfl, _, DGet.t hD6 hau, _, rfl, ix_row (row_sq s6 hc) (at2 1 _ rfl) ⟨getI acc uu, m, getD_val acc uu, rfl, ?_⟩⟩
                    have hi2 : i < ds.length := (List.getElem?_eq_some_iff.mp hdp).1
                    refine ⟨_, rfl, _, rfl, D, _, rfl, DPut.t hD6 hau (by
                      show (List.map _ acc).length < sizeLine
                      rw [List.length_map]
                      exact small1000 (by omega)), ?_⟩
                    rw [put_vKv]
                    refine ⟨_, _, _, rfl, fun b o e => ?_, upd_same, parts_more hdp hrp ea, putI_keys (hnu uu e8) hnm, Nat.le_trans (putI_len _ _ _) (by omega)⟩
                    rw [upd_ne (ne_of_none e hD)]
                    exact s6 _ _ (s5 _ _ (s4 _ _ e))
            · rintro σ H4 ⟨acc, p, u, rfl, s4, hD4, hrp, hnm, hal⟩
              rw [ly, List.take_length] at hrp
              rw [ly] at hal
              refine ⟨_, rfl, ix_row (row_sq s4 hs2) (at2 0 _ rfl) ⟨_, rfl, n, D, acc, rfl, hD4, hnm, by omega, fun v' H5 s5 hv => ?_⟩⟩
              refine q _ _ ((sm1.trans sm2).trans (s4.trans s5)) ?_
              rw [rs2, hrp]
              exact hv
end
end DR

namespace DR
open PySem PySem.Spec PyProof.Rows L2
/-! ### the order of unknowns -/
theorem data_tot {β : Type} (k : β → PyData) : PySem.W.TotalLe (PySem.W.dataLe false k) := by
  unfold PySem.W.dataLe
  exact PySem.W.sortLe_total _ _ _
theorem tot_or {β : Type} {r : β → β → Bool} (h : PySem.W.TotalLe r) (a b : β) : (r a b || r b a) = true := by
  rcases h.total a b with h | h
  · rw [h]
    rfl
  · rw [h, Bool.or_true]
theorem le2_trans : ∀ a b c, le2 a b = true → le2 b c = true → le2 a c = true := (data_tot keyD).trans
theorem le2_total : ∀ a b, (le2 a b || le2 b a) = true := tot_or (data_tot keyD)
theorem str_lt_irr (z : Str) : ¬ z.cps.toList < z.cps.toList := List.lt_irrefl _
theorem str_anti {z z' : Str} (h1 : ¬ z.cps.toList < z'.cps.toList) (h2 : ¬ z'.cps.toList < z.cps.toList) : z = z' := by
  have e : z.cps.toList = z'.cps.toList := List.le_antisymm (List.not_lt.mp h2) (List.not_lt.mp h1)
  obtain ⟨⟨l⟩⟩ := z
  obtain ⟨⟨l'⟩⟩ := z'
  have e' : l = l' := e
  rw [e']
/-- what is not less either way is the same -/
theorem toks_same {a b : PyData} (h1 : PySem.W.dataLt a b = false) (h2 : PySem.W.dataLt b a = false) : PySem.W.keyToks a = PySem.W.keyToks b := lex_total (O := itemOrd) _ _ h1 h2
theorem kD_toks {o o' : Key} {l m : List (Int ⊕ List Nat)} (h : PySem.W.keyToks (kD o) ++ l = PySem.W.keyToks (kD o') ++ m) : o = o' := by
  cases o with
  | inl i =>
    cases o' with
    | inl j =>
      have e := (List.cons.inj (show Sum.inl i :: l = Sum.inl j :: m from h)).1
      rw [Sum.inl.inj e]
    | inr z => exact nomatch (List.cons.inj (show (Sum.inl i : Int ⊕ List Nat) :: l = Sum.inr z.cps.toList :: m from h)).1
  | inr z =>
    cases o' with
    | inl j => exact nomatch (List.cons.inj (show (Sum.inr z.cps.toList : Int ⊕ List Nat) :: l = Sum.inl j :: m from h)).1
    | inr z' =>
      have e := (List.cons.inj (show Sum.inr z.cps.toList :: l = Sum.inr z'.cps.toList :: m from h)).1
      rw [PySem.W.str_of_cps (Sum.inr.inj e)]
theorem key_inj {a b : List Key} (ha : NmU a) (hb : NmU b) (h : PySem.W.keyToks (keyD a) = PySem.W.keyToks (keyD b)) : a = b := by
  obtain ⟨k, o, rfl, h1, _⟩ := ha
  obtain ⟨k', o', rfl, h1', _⟩ := hb
  rw [keyD_is, keyD_is] at h
  have h' : (Sum.inl 1 :: Sum.inl ((rank k).getD 0) :: Sum.inl 1 :: (PySem.W.keyToks (kD o) ++ [Sum.inl 0]) : List (Int ⊕ List Nat)) = Sum.inl 1 :: Sum.inl ((rank k').getD 0) :: Sum.inl 1 :: (PySem.W.keyToks (kD o') ++ [Sum.inl 0]) := by
    have := h
    simp only [PySem.W.keyToks, PySem.W.keyToksAll, List.cons_append, List.nil_append] at this
    exact this
  have e1 := (List.cons.inj (List.cons.inj h').2).1
  have e2 := (List.cons.inj (List.cons.inj (List.cons.inj h').2).2).2
  rw [rank_inj h1 h1' (Sum.inl.inj e1), kD_toks e2]
theorem le2_def (a b : List Key) : le2 a b = !PySem.W.dataLt (keyD b) (keyD a) := rfl
theorem le2_anti : ∀ a b, NmU a → NmU b → le2 a b = true → le2 b a = true → a = b := by
  intro a b ha hb h1 h2
  rw [le2_def, Bool.not_eq_true'] at h1 h2
  exact key_inj ha hb (toks_same h2 h1)
/-! ### sums as sums over their parts -/
/-- the parts' worth, each unknown worth F of it -/
def lin (F : List Key → Int) : Mul → Int
  | [] => 0
  | p :: l => p.2 * F p.1 + lin F l
theorem lin_app (F : List Key → Int) : ∀ l m : Mul, lin F (l ++ m) = lin F l + lin F m
  | [], m => by simp [lin]
  | p :: l, m => by
    show p.2 * F p.1 + lin F (l ++ m) = _
    rw [lin_app F l m]
    simp only [lin]
    omega
def NodK (l : Mul) : Prop := (l.map (·.1)).Nodup
theorem getI_nil (u : List Key) : getI [] u = 0 := rfl
theorem getI_cons (p : List Key × Int) (l : Mul) (u : List Key) : getI (p :: l) u = if p.1 = u then p.2 else getI l u := by
  unfold getI
  rw [List.find?_cons]
  by_cases h : p.1 = u
  · simp [h]
  · simp [h]
theorem getI_not {l : Mul} {u : List Key} (h : u ∉ l.map (·.1)) : getI l u = 0 := by
  induction l with
  | nil => rfl
  | cons p l ih =>
    rw [List.map_cons, List.mem_cons, not_or] at h
    rw [getI_cons, if_neg fun e => h.1 e.symm]
    exact ih h.2
theorem any_key {l : Mul} {u : List Key} : (l.any fun kv => decide (kv.1 = u)) = true ↔ u ∈ l.map (·.1) := by
  rw [List.any_eq_true, List.mem_map]
  constructor
  · rintro ⟨p, hp, e⟩
    exact ⟨p, hp, of_decide_eq_true e⟩
  · rintro ⟨p, hp, e⟩
    exact ⟨p, hp, decide_eq_true e⟩
theorem map_not {l : Mul} {u : List Key} (m : Int) (h : u ∉ l.map (·.1)) : l.map (fun kv => if kv.1 = u then (kv.1, m) else kv) = l := by
  induction l with
  | nil => rfl
  | cons p l ih =>
    rw [List.map_cons, List.mem_cons, not_or] at h
    rw [List.map_cons, ih h.2, if_neg fun e => h.1 e.symm]
theorem putI_in {l : Mul} {u : List Key} (m : Int) (h : u ∈ l.map (·.1)) : (putI l u m).map (·.1) = l.map (·.1) := by
  unfold putI
  rw [if_pos (any_key.mpr h), List.map_map]
  apply List.map_congr_left
  intro p _
  show (if p.1 = u then (p.1, m) else p).1 = p.1
  split <;> rfl
theorem putI_out {l : Mul} {u : List Key} (m : Int) (h : u ∉ l.map (·.1)) : putI l u m = l ++ [(u, m)] := by
  unfold putI
  rw [if_neg (fun z => h (any_key.mp z))]
theorem nodK_put {l : Mul} (h : NodK l) (u : List Key) (m : Int) : NodK (putI l u m) := by
  unfold NodK
  cases Classical.em (u ∈ l.map (·.1)) with
  | inl z =>
    rw [putI_in m z]
    exact h
  | inr z =>
    rw [putI_out m z, List.map_append]
    refine List.nodup_append.mpr ⟨h, (by simp), fun a ha b hb e => ?_⟩
    have hb' : b = u := by simpa using hb
    exact z (hb' ▸ e ▸ ha)
theorem lin_map {F : List Key → Int} {u : List Key} {m : Int} : ∀ {l : Mul}, NodK l → u ∈ l.map (·.1) → lin F (l.map (fun kv => if kv.1 = u then (kv.1, m) else kv)) = lin F l + (m - getI l u) * F u
  | [], _, h => by simp at h
  | p :: l, nd, h => by
    have nd' := List.nodup_cons.mp (show (p.1 :: l.map (·.1)).Nodup from nd)
    rw [List.map_cons]
    by_cases c : p.1 = u
    · rw [if_pos c, map_not m (c ▸ nd'.1), getI_cons, if_pos c]
      show m * F p.1 + lin F l = p.2 * F p.1 + lin F l + _
      rw [c, Int.sub_mul]
      omega
    · have h2 : u ∈ l.map (·.1) := by
        rcases List.mem_cons.mp h with z | z
        · exact absurd z.symm c
        · exact z
      rw [if_neg c, getI_cons, if_neg c]
      show p.2 * F p.1 + lin F _ = p.2 * F p.1 + lin F l + _
      rw [lin_map nd'.2 h2]
      omega
theorem lin_put {F : List Key → Int} {l : Mul} (nd : NodK l) (u : List Key) (m : Int) : lin F (putI l u (getI l u + m)) = lin F l + m * F u := by
  unfold putI
  by_cases h : u ∈ l.map (·.1)
  · rw [if_pos (any_key.mpr h), lin_map nd h]
    have e : getI l u + m - getI l u = m := by omega
    rw [e]
  · rw [if_neg (fun z => h (any_key.mp z)), lin_app, getI_not h]
    simp [lin]
/-- whether it is v -/
def isU (v : List Key) (u : List Key) : Int := if u = v then 1 else 0
theorem getI_lin {l : Mul} (nd : NodK l) (v : List Key) : getI l v = lin (isU v) l := by
  induction l with
  | nil => rfl
  | cons p l ih =>
    have nd' := List.nodup_cons.mp (show (p.1 :: l.map (·.1)).Nodup from nd)
    rw [getI_cons]
    show _ = p.2 * isU v p.1 + lin (isU v) l
    rw [← ih nd'.2]
    unfold isU
    by_cases c : p.1 = v
    · rw [if_pos c, if_pos c, getI_not (c ▸ nd'.1)]
      omega
    · rw [if_neg c, if_neg c]
      omega
theorem lin_perm {F : List Key → Int} {l m : Mul} (h : l.Perm m) : lin F l = lin F m := by
  induction h with
  | nil => rfl
  | cons x _ ih => simp only [lin, ih]
  | swap x y l =>
    simp only [lin]
    omega
  | trans _ _ i1 i2 => exact i1.trans i2
theorem lin_keys {F : List Key → Int} (g : List Key → Int) : ∀ us : List (List Key), lin F ((us.filter fun u => !decide (g u = 0)).map fun u => (u, g u)) = lin F (us.map fun u => (u, g u))
  | [] => rfl
  | u :: us => by
    rw [List.filter_cons, List.map_cons]
    show _ = g u * F u + lin F _
    rw [← lin_keys g us]
    by_cases c : g u = 0
    · simp [c]
    · simp [c, lin]
theorem lin_self {F : List Key → Int} : ∀ {l : Mul}, NodK l → (l.map (·.1)).map (fun u => (u, getI l u)) = l
  | [], _ => rfl
  | p :: l, nd => by
    have nd' := List.nodup_cons.mp (show (p.1 :: l.map (·.1)).Nodup from nd)
    rw [List.map_cons, List.map_cons, getI_cons, if_pos rfl]
    refine congrArg (p :: ·) (Eq.trans ?_ (lin_self (F := F) nd'.2))
    apply List.map_congr_left
    intro u hu
    rw [getI_cons, if_neg]
    intro e
    exact nd'.1 (e ▸ hu)
theorem lin_form {F : List Key → Int} {l : Mul} (nd : NodK l) : lin F (form l) = lin F l := by
  unfold form
  rw [lin_perm ((List.mergeSort_perm (keysN l) le2).map fun u => (u, getI l u))]
  unfold keysN
  rw [lin_keys (getI l), lin_self (F := F) nd]
theorem keysN_mem {l : Mul} {u : List Key} : u ∈ keysN l ↔ getI l u ≠ 0 := by
  unfold keysN
  rw [List.mem_filter]
  constructor
  · rintro ⟨_, h⟩ e
    simp [e] at h
  · intro h
    refine ⟨?_, by simp [h]⟩
    cases Classical.em (u ∈ l.map (·.1)) with
    | inl z => exact z
    | inr z => exact absurd (getI_not z) h
theorem keysN_nod {l : Mul} (nd : NodK l) : (keysN l).Nodup := List.Nodup.sublist List.filter_sublist nd
def NmK (l : Mul) : Prop := ∀ u ∈ l.map (·.1), NmU u
theorem keysN_nm {l : Mul} (h : NmK l) : ∀ u ∈ keysN l, NmU u := fun u hu => h u (List.mem_filter.mp hu).1
/-- a row of unknowns in order is the one in order -/
theorem sort_one {us vs : List (List Key)} (h : ∀ u ∈ us, NmU u) (p : us.Perm vs) (o : us.Pairwise fun a b => le2 a b = true) : vs.mergeSort le2 = us := by
  have pm : us.Perm (vs.mergeSort le2) := p.trans (List.mergeSort_perm vs le2).symm
  have o2 : (vs.mergeSort le2).Pairwise fun a b => le2 a b = true := List.pairwise_mergeSort le2_trans le2_total vs
  exact (pm.eq_of_pairwise (fun a b ha hb h1 h2 => le2_anti a b (h a ha) (h b (pm.mem_iff.mpr hb)) h1 h2) o o2).symm
theorem form_eq {l m : Mul} (nl : NodK l) (nm : NodK m) (kl : NmK l) (e : ∀ u, getI l u = getI m u) : form l = form m := by
  have hp : (keysN l).Perm (keysN m) := (List.perm_ext_iff_of_nodup (keysN_nod nl) (keysN_nod nm)).mpr fun u => by rw [keysN_mem, keysN_mem, e u]
  have q : (keysN m).mergeSort le2 = (keysN l).mergeSort le2 := by
    refine sort_one (fun u hu => keysN_nm kl u ((List.mergeSort_perm _ _).mem_iff.mp hu)) ((List.mergeSort_perm _ _).trans hp) ?_
    exact List.pairwise_mergeSort le2_trans le2_total _
  unfold form
  rw [q]
  apply List.map_congr_left
  intro u _
  rw [e u]
/-! ### parts added -/
/-- one part added -/
def addP (kvs : Mul) (u : List Key) (m : Int) : Mul := putI kvs u (getI kvs u + m)
theorem addP_keys {l : Mul} {u : List Key} {m : Int} {Pr : List Key → Prop} (h : ∀ x ∈ l.map (·.1), Pr x) (hu : Pr u) : ∀ x ∈ (addP l u m).map (·.1), Pr x := by
  unfold addP
  intro x hx
  cases Classical.em (u ∈ l.map (·.1)) with
  | inl z =>
    rw [putI_in _ z] at hx
    exact h x hx
  | inr z =>
    rw [putI_out _ z, List.map_append] at hx
    rcases List.mem_append.mp hx with hx | hx
    · exact h x hx
    · have e : x = u := by simpa using hx
      rw [e]
      exact hu
theorem addP_len (l : Mul) (u : List Key) (m : Int) : (addP l u m).length ≤ l.length + 1 := putI_len _ _ _
/-- the parts of a sum, added up -/
def accAll (l : Mul) : Mul := l.foldl (fun a q => addP a q.1 q.2) []
theorem acc_go : ∀ (l s : Mul), NodK s → NodK (l.foldl (fun a q => addP a q.1 q.2) s) ∧ ∀ F, lin F (l.foldl (fun a q => addP a q.1 q.2) s) = lin F s + lin F l
  | [], s, nd => ⟨nd, fun F => by simp [lin]⟩
  | q :: l, s, nd => by
    rw [List.foldl_cons]
    obtain ⟨h1, h2⟩ := acc_go l (addP s q.1 q.2) (nodK_put nd _ _)
    refine ⟨h1, fun F => ?_⟩
    rw [h2 F]
    unfold addP
    rw [lin_put nd]
    simp only [lin]
    omega
theorem acc_lin (l : Mul) (F : List Key → Int) : lin F (form (accAll l)) = lin F l := by
  obtain ⟨h1, h2⟩ := acc_go l [] List.nodup_nil
  unfold accAll
  rw [lin_form h1, h2]
  simp [lin]
end DR

namespace DR
open PySem PySem.Spec PyProof.Rows L2
/-! ### own errors of one field -/
/-- __init__ stores its argument under f -/
def spErrInit (K : PySem.W.Frag) (C : Addr) (f : Str) : Sp := fun vs H Q _ => ∃ a y, vs = [.ref a, y] ∧ H a = some (exo a C none) ∧ ∀ dx, H dx = none → dx ≠ a → Q .non (upd (upd H dx (exd dx [(f, y)])) a (exo a C (some dx)))
/-- what is known of such a class x at C -/
structure Err (P : Program) (w : World) (K : PySem.W.Frag) (mg : Str → Option Value) (base : Heap) (x : Str) (C : Addr) (f : Str) : Prop where
  g : mg x = some (.ref C)
  T : OexC K C
  no : PySem.W.findIn K (.ref C) f = some none
  xf : XfC K C
  te : PySem.W.exmOne K (.ref C) (.ref C) = some true
  ini : ∃ (fI : Addr) (fd : FuncData) (p2 : Str), PySem.W.findIn K (.ref C) "__init__" = some (some (.ref fI)) ∧ PySem.W.typeIn K (.ref fI) = some (.type "function") ∧ Binds K fd ["self", p2] [] ∧ FnOk P w K mg base CX0 1 fI fd ["self", p2] (spErrInit K C f)
theorem err_go {K : PySem.W.Frag} {C : Addr} {f : Str} {y : V} {H1 : Hp} {Q : XK} (q : ∀ dx, H1 dx = none → Q (.ref C) (some dx) (upd H1 dx (.xd [(f, y)]))) :
    [y].length ≤ 1000 ∧ ∀ a, H1 a = none → spErrInit K C f (.ref a :: ([y] ++ [])) (upd H1 a (exo a C none)) (fun v H2 => v = .non ∧ ∃ (d : Addr) (fs : List (Str × V)), H2 a = some (exo a C (some d)) ∧ H2 d = some (exd d fs) ∧ H1 d = none ∧ Q (.ref C) (some d) (upd (del H2 a) d (.xd fs))) (fun _ _ _ => False) := by
  refine ⟨(by show 1 ≤ 1000; decide), fun a ha => ⟨a, y, rfl, upd_same, fun dx hdx hne => ⟨rfl, dx, [(f, y)], upd_same, ?_, ?_, ?_⟩⟩⟩
  · rw [upd_ne hne, upd_same]
  · rw [upd_ne hne] at hdx
    exact hdx
  · have h1 : H1 dx = none := by
      rw [upd_ne hne] at hdx
      exact hdx
    have e : upd (del (upd (upd (upd H1 a (exo a C none)) dx (exd dx [(f, y)])) a (exo a C (some dx))) a) dx (.xd [(f, y)]) = upd H1 dx (.xd [(f, y)]) := by
      funext b
      by_cases hb : b = dx
      · rw [hb, upd_same, upd_same]
      · rw [upd_ne hb, upd_ne hb]
        by_cases hb2 : b = a
        · rw [hb2, del_same, ha]
        · rw [del_ne hb2, upd_ne hb2, upd_ne hb, upd_ne hb2]
    rw [e]
    exact q dx h1
def tRaise1 (K : PySem.W.Frag) (C : Addr) (f : Str) (te : TE) (W : WX) : TS := fun _ σ H => tMkO C (spErrInit K C f) [] (tCons te tNil) σ H fun cls d H' => W cls d σ H'
theorem ps_err {X : Cx} {W : WX} {x f : Str} {C : Addr} {e : Expr} {te : TE} {p pos pos2 : Pos} {k : Nat} (hc : X.calm = true) (tk : Takes X W) (T : Err X.prog X.w X.K X.mg X.base x C f) (hr : Room k X.A) (h2 : 2 ≤ k) (he : PE X e te) (hg : Gl X x := by rfl)
    (hdb : (x == ("__debug__" : Str)) = false := by decide) (hs : starEach (e :: []) X.env = (false, eval e X.env) :: starEach [] X.env := by rfl) (hpl : (backTo pos (starEach [] X.env)).any (·.1) = false := by rfl) :
    PS X (.Raise (some (.Call (.Name x p) [e] [] pos)) none pos2) (tRaise1 X.K C f te W) := by
  obtain ⟨fI, fd, p2, iC, tI, hb, F⟩ := T.ini
  exact ps_raise (pos := pos2) hc tk (pmk_oex (p := p) (pos := pos) T.T iC tI F (hr.mono h2) hb .nil pass0 hg T.g (pa_cons he pa_nil hs) hdb hs hpl)
end DR

namespace DR
open PySem PySem.Spec PyProof.Rows L2
/-! ### dict comprehensions whose keys are tuples -/
/-- the heap behind D[y] = z, y a tuple -/
def PutT (D : Addr) (y z : V) (Ha Hb : Hp) : Prop := ∃ (ks : List (List Key × V)) (u : List Key) (b : Addr), Ha D = some (.dT ks) ∧ y = .ref b ∧ Ha b = some (.tup (u.map kV)) ∧ ks.length < sizeLine ∧ Hb = upd Ha D (.dT (putK ks u z))
theorem run_putT {X : Cx} {pn : List (Addr × Obj)} {σ : L2.St} {Ha Hb : Hp} {s : Shared} {Er : Value → Shared → Prop} {D : Addr} {y z : V} {vy vz : Value} {Fi : Unit → Shared → Prop} (hu : X.A.units + 1 < cLine) (I : Inv X pn σ Ha s) (g : PutT D y z Ha Hb)
    (r1 : L2.RelV y vy) (r2 : L2.RelV z vz) (go : ∀ s', Inv X pn σ Hb s' → Fi () s') : wpAny (model X.prog X.w) X.A (dictSet D vy vz) Fi Er s := by
  obtain ⟨ks, u, b, hD, rfl, hb, few, rfl⟩ := g
  obtain rfl : vy = Value.ref b := r1
  obtain ⟨size, notM, xs, pr, isD⟩ := dt_of I.hok hD
  have lx : xs.length ≤ sizeLine := (Paired.length pr) ▸ size
  have few2 : (putK ks u z).length ≤ sizeLine := Nat.le_trans (length_putK ks u z) few
  refine wpAny_dictSet_heap (hsz := lx) (show (tupleKind (mixKind X.prog X.w)).room X.A from Nat.lt_of_succ_lt hu) (key_of I.hok hb) isD fun g2 isD2 same => go _ ?_
  obtain ⟨ob, en, epo, i1, i2, i3, i4, _, i6⟩ := isD2
  have stays : ∀ c us, Ha c = some (.tup us) → upd Ha D (.dT (putK ks u z)) c = some (.tup us) := fun c us ec => by
    rw [upd_ne (ne_of ec hD (fun e => nomatch e))]
    exact ec
  exact d_write I (by rw [hD]; trivial) same ⟨ob, i1⟩ ⟨few2, notM, _, (pr.put u hb r2).keeps fun c us ec => stays c us ec, ob, en, epo, i1, i2, i3, i4, i6⟩
/-- one turn of such a comprehension -/
def turnT (g : TG) (tt : TT) (tk tv : TE) (σ0 : L2.St) (vs : List Nat) (D : Addr) (Nx : Hp → Prop) (x : V) (Ha : Hp) : Prop :=
  g x (wipe σ0 vs) Ha fun σ1 Hb => wipe σ1 vs = wipe σ0 vs ∧ tt σ1 Hb fun b Hc => if b = true then tk σ1 Hc fun y Hd => tv σ1 Hd fun z He => ∃ Hf, PutT D y z He Hf ∧ Nx Hf else Nx Hc
/-- what is asked of such a comprehension -/
def tDt (wi : TI) (g : TG) (tt : TT) (tk tv : TE) (vs : List Nat) : TE := fun σ H Q => wi σ H fun J Ha => ∀ D, Ha D = none → ∃ W : Nat → Nat → Hp → Prop, (∃ n, W 0 n (upd Ha D (.dT []))) ∧
  ∀ j n Hb, W j n Hb → (J.stop j Hb ∧ Q (.ref D) Hb) ∨ (J.go j Hb ∧ ∃ Nx : Hp → Prop, (∀ Hc, Nx Hc → ∃ n', n' < n ∧ W (j + 1) n' Hc) ∧ ∀ x Hc, J.yld j Hb x Hc → turnT g tt tk tv σ vs D Nx x Hc)
section
variable {X : Cx}
theorem run_dt {pn : List (Addr × Obj)} {s : Shared} {σ : L2.St} {H : Hp} {Q : VK} {ke ve tg src : Expr} {conds : List Expr} {sc : Scope} {own : List (Str × Nat)} {po po' : Pos} {wi : TI} {g : TG} {tt : TT} {tk tv : TE} {use : Option (Value → Sem Unit)} {Fi : Value → Shared → Prop}
    (hu : X.A.units + 1 < cLine) (calm : X.calm = true) (nod : X.N.Nodup) (I : Inv X pn σ H s) (walks : PI X tg src wi) (blk : BlkOk X.N X.env.scope sc own)
    (rg : ∀ (s : Shared) (H : Hp) (C : Addr) (cl : List (Str × Addr)) (fp : List Addr), PG (X.blk s H sc (compEnvC sc cl C X.env) fp) tg g) (rt : ∀ (s : Shared) (H : Hp) (C : Addr) (cl : List (Str × Addr)) (fp : List Addr), PTs (X.blk s H sc (compEnvC sc cl C X.env) fp) conds tt)
    (rk : ∀ (s : Shared) (H : Hp) (C : Addr) (cl : List (Str × Addr)) (fp : List Addr), PE (X.blk s H sc (compEnvC sc cl C X.env) fp) ke tk) (rv : ∀ (s : Shared) (H : Hp) (C : Addr) (cl : List (Str × Addr)) (fp : List Addr), PE (X.blk s H sc (compEnvC sc cl C X.env) fp) ve tv)
    (fold : ∀ x, foldedSetIterable src X.env x = pure x) (asks : tDt wi g tt tk tv (own.map (·.2)) σ H Q)
    (last : ∀ D C s' m H', Inv X pn σ H' s' → Q (.ref D) H' → s'.heap.Ns C m → FpOk X pn H' C → compPost (model X.prog X.w) X.A X.xe use Fi (.ref D) C (.ok .next) s') :
    wpAny (model X.prog X.w) X.A (comprehension (.DictComp ke ve [⟨tg, src, conds, 0⟩] sc po) sc X.env po' newDict false (eval src X.env) use) Fi X.xe s := by
  have freeOk : ∀ y ∈ sc.names, y.2 = .free → ∃ c, X.env.cells.lookup y.1 = some c := fun y hy e => (blk.free y hy e).elim (fun k => I.ok.has _ (.inl k)) fun k => I.ok.has _ (.inr k)
  refine wpAny_comprehension_free (use := use) rfl fold (closure_ok freeOk) blk.kind (fun y hy e => by rw [blk.uniq y hy, e]) (thn (walks.run pn s σ H _ I asks) fun _ sa ha => thn ha fun _ sb hb => ?_)
  obtain ⟨it, fp, tn, J, Hb, rfl, Ib, T, stb, fpb, q⟩ := hb
  refine wpAny_newObj_type (newEnv_comp ?_)
  -- the new dict
  have freeD : Hb sb.heap.objs.size = none := Ib.hok.fresh (Nat.le_refl _)
  obtain ⟨W, ⟨n0, w0⟩, turns⟩ := q _ freeD
  have Ic : Inv X pn σ (upd Hb sb.heap.objs.size (.dT [])) { sb with heap := sb.heap.push { cls := .type "dict", data := .dict #[] } } := Ib.laid (t' := sb.toks) (fun _ _ e => Heap.get?_push_of_some _ e) (Nat.le_refl _) (dt_empty sb.heap Ib.big)
  generalize eD : sb.heap.objs.size = D at freeD w0 turns Ic ⊢
  generalize ec : ({ sb with heap := sb.heap.push { cls := .type "dict", data := .dict #[] } } : Shared) = c at Ic
  have hc : c.heap = sb.heap.push { cls := .type "dict", data := .dict #[] } := by rw [← ec]
  have below : ∀ b ∈ fp, b < D := fun b hb => by
    obtain ⟨o, e, _⟩ := T.obj _ _ stb b hb
    rw [← eD]
    exact Heap.lt_size e
  generalize eH : upd Hb D (.dT []) = Hc at Ic w0
  have fpc : ∀ b ∈ fp, FpOk X pn Hc b ∧ b < c.heap.objs.size := fun b hb => by
    have lt := below b hb
    refine ⟨⟨?_, (fpb b hb).2⟩, ?_⟩
    · rw [← eH, upd_ne (Nat.ne_of_lt lt)]
      exact (fpb b hb).1
    · rw [hc, Heap.size_push, eD]
      exact Nat.lt_succ_of_lt lt
  have stc : tn 0 c.heap := T.keep _ _ _ stb fun b _ o e => by
    rw [hc]
    exact Heap.get?_push_of_some _ e
  have Id := block_start Ic blk nod fpc
  -- the block
  generalize eE : compEnvC sc (cellsFrom (c.heap.objs.size + 1) sc.names (cloFrom X.env.cells sc.names [])) c.heap.objs.size X.env = en at Id
  have pg : PG (X.blk c Hc sc en fp) tg g := eE ▸ rg c Hc _ _ fp
  have pt : PTs (X.blk c Hc sc en fp) conds tt := eE ▸ rt c Hc _ _ fp
  have pk : PE (X.blk c Hc sc en fp) ke tk := eE ▸ rk c Hc _ _ fp
  have pv' : PE (X.blk c Hc sc en fp) ve tv := eE ▸ rv c Hc _ _ fp
  have locs : en.locals = c.heap.objs.size := by rw [← eE]; rfl
  have quiet : ∀ b ∈ fp, Hc b = none := fun b hb => (fpc b hb).1.1
  generalize ed : ({ c with heap := pushCells (c.heap.push { cls := .type "dict", data := .dict #[] }) sc.names } : Shared) = d at Id
  have std : tn 0 d.heap := T.keep _ _ _ stc fun b _ o e => by
    rw [← ed]
    exact pushCells_keeps _ _ _ _ (Heap.get?_push_of_some _ e)
  have fpIn : ∀ {σ' : L2.St} {H' : Hp} {s' : Shared}, Inv (X.blk c Hc sc en fp) [] σ' H' s' → (∀ b ∈ fp, H' b = none) → ∀ b ∈ fp, FpOk (X.blk c Hc sc en fp) [] H' b := fun I' q b hb =>
    ⟨q b hb, (I'.ok.exf b hb).1, I'.ok.exfs b hb, .inl hb, fun x y e => (I'.ok.exf b hb).2 x y e, fun p hp => absurd (show p ∈ ([] : List (Addr × Obj)) ++ [] from hp) (by simp)⟩
  have goes : codeAny (model X.prog X.w) X.A (.compLoop (.DictComp ke ve [⟨tg, src, conds, 0⟩] sc po) 0 (.ref it) (.ref D) en) (compPost (model X.prog X.w) X.A X.xe use Fi (.ref D) c.heap.objs.size) d := by
    refine compLoop_anyD (fun n s' => ∃ j H', Inv (X.blk c Hc sc en fp) [] (wipe σ (own.map (·.2))) H' s' ∧ tn j s'.heap ∧ (∀ b ∈ fp, H' b = none) ∧ W j n H') (fun n s5 hs5 => ?_) n0 ⟨0, Hc, Id, std, quiet, w0⟩
    obtain ⟨j, H5, I5, st5, n5, w5⟩ := hs5
    rcases turns j n H5 w5 with ⟨over, qq⟩ | ⟨on, Nx, next, step⟩
    · refine thnF (T.done (X.blk c Hc sc en fp) rfl rfl rfl calm j [] s5 _ H5 (fun _ _ => False) I5 (fpIn I5 n5) st5 over) fun r s6 h6 => ?_
      obtain ⟨rfl, I6⟩ := h6
      have outer : Inv X pn σ H5 s6 := Ic.call' (ch := fp) I6.os I6.base I6.hok I6.bare fun b hb => by
        obtain ⟨⟨k0, k1, k2, k3, k4, k5⟩, _⟩ := fpc b hb
        exact ⟨k3, k1, k4, k5⟩
      have nL : H5 c.heap.objs.size = none := by
        rw [← locs]
        exact I6.free
      obtain ⟨m, hm, _⟩ := I6.loc
      have hm' : s6.heap.Ns c.heap.objs.size m := by
        rw [← locs]
        exact hm
      exact last D _ s6 m H5 outer qq hm' (Ic.fpOk (Nat.le_refl _) nL)
    · refine thnF (T.item (X.blk c Hc sc en fp) rfl rfl rfl calm j [] s5 _ H5 (fun _ _ => False) I5 (fpIn I5 n5) st5 on) fun r s6 h6 => ?_
      obtain ⟨u, rfl, h6⟩ := h6
      refine thnF h6 fun _ s7 h7 => ?_
      obtain ⟨x, H7, I7, r7, y7, st7, n7⟩ := h7
      refine thnF (pg.run _ s7 _ H7 x u _ (I7.pinned (fpIn I7 n7) (T.obj _ _ st7)) r7 (step x H7 y7)) fun _ s8 h8 => ?_
      obtain ⟨σ8, H8, I8, wip, q8⟩ := h8
      have over : ∀ {s' : Shared} {H' : Hp}, Inv (X.blk c Hc sc en fp) ([] ++ pinsAt fp s7.heap) σ8 H' s' → Nx H' → ∃ m, m < n ∧ ∃ j H', Inv (X.blk c Hc sc en fp) [] (wipe σ (own.map (·.2))) H' s' ∧ tn j s'.heap ∧ (∀ b ∈ fp, H' b = none) ∧ W j m H' := by
        intro s' H' I' nx
        obtain ⟨m', lt, w'⟩ := next H' nx
        have pinned : ∀ b ∈ fp, ∀ o, s7.heap.get? b = some o → s'.heap.get? b = some o ∧ H' b = none := fun b hb o e => by
          have z := I'.pin (b, o) (List.mem_append_right _ (List.mem_append_right _ (mem_pinsAt hb e)))
          exact ⟨z.1, z.2.1⟩
        refine ⟨m', lt, j + 1, H', (I'.unpinned (pins := [])).weak ?_ ?_, T.keep _ _ _ st7 fun b hb o e => (pinned b hb o e).1, fun b hb => ?_, w'⟩
        · rw [← wip, wipe_length]
        · intro i v e
          rw [← wip] at e
          exact (wipe_some e).1
        · obtain ⟨o, e, _⟩ := T.obj _ _ st7 b hb
          exact (pinned b hb o e).2
      refine thnF (pt.run _ s8 σ8 H8 _ I8 q8) fun b s9 h9 => ?_
      obtain ⟨H9, I9, q9⟩ := h9
      cases b with
      | false =>
        rw [if_neg Bool.false_ne_true] at q9 ⊢
        exact over I9 q9
      | true =>
        rw [if_pos rfl] at q9 ⊢
        refine thnF (pk.run _ s9 σ8 H9 _ I9 q9) fun _ s10 h10 => ?_
        obtain ⟨yk, H10, I10, r10, q10⟩ := h10
        refine thnF (pv'.run _ s10 σ8 H10 _ I10 q10) fun _ s11 h11 => ?_
        obtain ⟨yv, H11, I11, r11, Hf, put, nx⟩ := h11
        exact run_putT (X := X.blk c Hc sc en fp) hu I11 put r10 r11 fun s12 I12 => over I12 nx
  subst eE
  exact codeAny_compStart_dict goes (T.self X.A 0 _ _ _ std goes)
/-- such a comprehension as a value -/
theorem pe_dt {ke ve tg src : Expr} {conds : List Expr} {sc : Scope} {own : List (Str × Nat)} {po : Pos} {wi : TI} {g : TG} {tt : TT} {tk tv : TE} (hu : X.A.units + 1 < cLine) (calm : X.calm = true) (nod : X.N.Nodup) (walks : PI X tg src wi) (blk : BlkOk X.N X.env.scope sc own)
    (rg : ∀ (s : Shared) (H : Hp) (C : Addr) (cl : List (Str × Addr)) (fp : List Addr), PG (X.blk s H sc (compEnvC sc cl C X.env) fp) tg g) (rt : ∀ (s : Shared) (H : Hp) (C : Addr) (cl : List (Str × Addr)) (fp : List Addr), PTs (X.blk s H sc (compEnvC sc cl C X.env) fp) conds tt)
    (rk : ∀ (s : Shared) (H : Hp) (C : Addr) (cl : List (Str × Addr)) (fp : List Addr), PE (X.blk s H sc (compEnvC sc cl C X.env) fp) ke tk) (rv : ∀ (s : Shared) (H : Hp) (C : Addr) (cl : List (Str × Addr)) (fp : List Addr), PE (X.blk s H sc (compEnvC sc cl C X.env) fp) ve tv)
    (fold : ∀ x, foldedSetIterable src X.env x = pure x := by intro _; rfl) : PE X (.DictComp ke ve [⟨tg, src, conds, 0⟩] sc po) (tDt wi g tt tk tv (own.map (·.2))) := by
  constructor
  intro pn s σ H Q I asks
  rw [arm_eval_DictComp]
  refine run_dt hu calm nod I walks blk rg rt rk rv fold asks fun D C s' m H' I' q hm f => ⟨m, hm, fun g2 sb => ?_⟩
  obtain ⟨k0, k1, k2, k3, k4, k5⟩ := f
  exact ⟨.ref D, H', I'.turned (t' := s'.toks) (fun b o hb e => (sb.2 b hb).trans e) k0 k1 k3 k4 k5, rfl, q⟩
end
/-- over any walk -/
theorem dt_it {J : It} {n : Nat} {G : Hp → Prop} {Y : Nat → Hp → V → Hp → Prop} (w : Walk J n G Y) {g : TG} {tt : TT} {tk tv : TE} {vs : List Nat} {σ : L2.St} {Ha : Hp} {D : Addr} {Qd : Hp → Prop} (Pv : Nat → Hp → Prop) (zero : Pv 0 (upd Ha D (.dT []))) (stand : ∀ i H, i ≤ n → Pv i H → G H)
    (turn : ∀ i x H H', i < n → Pv i H → Y i H x H' → turnT g tt tk tv σ vs D (Pv (i + 1)) x H') (last : ∀ H, Pv n H → Qd H) :
    ∃ W : Nat → Nat → Hp → Prop, (∃ m, W 0 m (upd Ha D (.dT []))) ∧ ∀ j m Hb, W j m Hb → (J.stop j Hb ∧ Qd Hb) ∨ (J.go j Hb ∧ ∃ Nx : Hp → Prop, (∀ Hc, Nx Hc → ∃ n', n' < m ∧ W (j + 1) n' Hc) ∧ ∀ x Hc, J.yld j Hb x Hc → turnT g tt tk tv σ vs D Nx x Hc) := by
  refine ⟨fun j m Hb => m = n - j ∧ j ≤ n ∧ Pv j Hb, ⟨n, rfl, Nat.zero_le _, zero⟩, ?_⟩
  rintro j m Hb ⟨rfl, le, p⟩
  have q := stand j Hb le p
  rcases Nat.lt_or_eq_of_le le with lt | rfl
  · exact .inr ⟨w.goes j Hb lt q, Pv (j + 1), fun Hc p' => ⟨n - (j + 1), by omega, rfl, lt, p'⟩, fun x Hc y => turn j x Hb Hc lt p (w.yields j Hb x Hc lt q y)⟩
  · exact .inl ⟨w.stops Hb q, last Hb p⟩
end DR

namespace DR
open PySem PySem.Spec PyProof.Rows L2
/-- y = {k: v for ..}, the keys tuples, y a local name -/
theorem ps_setDt {X : Cx} {i : Nat} {y : Str} {py : Pos} {ke ve tg src : Expr} {conds : List Expr} {sc : Scope} {own : List (Str × Nat)} {po spo : Pos} {wi : TI} {g : TG} {tt : TT} {tk tv : TE} (hu : X.A.units + 1 < cLine) (calm : X.calm = true) (nod : X.N.Nodup) (slot : X.N[i]? = some y) (isLoc : X.env.scope.names.lookup y = some .local)
    (sw : swapsWith (.DictComp ke ve [⟨tg, src, conds, 0⟩] sc po) (some (.Name y py)) spo.line X.env = pure true) (walks : PI X tg src wi) (blk : BlkOk X.N X.env.scope sc own)
    (rg : ∀ (s : Shared) (H : Hp) (C : Addr) (cl : List (Str × Addr)) (fp : List Addr), PG (X.blk s H sc (compEnvC sc cl C X.env) fp) tg g) (rt : ∀ (s : Shared) (H : Hp) (C : Addr) (cl : List (Str × Addr)) (fp : List Addr), PTs (X.blk s H sc (compEnvC sc cl C X.env) fp) conds tt)
    (rk : ∀ (s : Shared) (H : Hp) (C : Addr) (cl : List (Str × Addr)) (fp : List Addr), PE (X.blk s H sc (compEnvC sc cl C X.env) fp) ke tk) (rv : ∀ (s : Shared) (H : Hp) (C : Addr) (cl : List (Str × Addr)) (fp : List Addr), PE (X.blk s H sc (compEnvC sc cl C X.env) fp) ve tv)
    (fold : ∀ x, foldedSetIterable src X.env x = pure x := by intro _; rfl) : PS X (.Assign [.Name y py] (.DictComp ke ve [⟨tg, src, conds, 0⟩] sc po) spo) (tAsg (tDt wi g tt tk tv (own.map (·.2))) (gName i)) := by
  constructor
  intro pn s σ H D I want
  rw [exec_Assign_Name_used _ _ _ _ sw]
  refine wpAny_bind (wpAny_standAt (wpAny_bind ?_))
  show wpAny _ X.A (do let _ ← comprehension (.DictComp ke ve [⟨tg, src, conds, 0⟩] sc po) sc X.env (firstIterPos [⟨tg, src, conds, 0⟩] po) newDict false (eval src X.env) (some (assign (.Name y py) X.env))) _ _ s
  have want' : tDt wi g tt tk tv (own.map (·.2)) σ H (fun x H1 => gName i x σ H1 D.nx) := want
  refine wpAny_bind (thn (run_dt (Fi := fun _ s' => SP X pn D .next s') hu calm nod I walks blk rg rt rk rv fold want' fun L C s' m H' I' q hn ff => ?_) fun _ s' hq => wpAny_pure (wpAny_pure hq))
  show wpAny _ _ (assign (.Name y py) X.env (.ref L)) _ _ _
  refine wpAny_assign_Name (store_ok2 (v := V.ref L) I' nod slot (.inl isLoc) rfl (fun s2 I2 there => ?_) (.inr isLoc))
  obtain ⟨a, sb, ha⟩ := there
  have ⟨u0, u1, u2, u3, u4, u5⟩ := ff
  have apart : C ≠ a := by
    rcases ha with z | z
    · exact fun e => u1 (e.trans z)
    · exact fun e => u4 y a z e.symm
  exact ⟨m, hn.sameBut sb apart, fun h3 sb3 => ⟨_, H', I2.turned (t' := s2.toks) (fun b o hb e => (sb3.2 b hb).trans e) u0 u1 u3 u4 u5, q⟩⟩
theorem sw_dt {ke ve : Expr} {gs : List Comprehension} {sc : Scope} {po py : Pos} {y : Str} {l : Nat} {env : Env} (isF : env.scope.kind = .function) (isL : env.scope.names.lookup y = some .local) (line : (py.line == po.line) = true)
    (not : (sc.names.any fun (n, k) => n == y && (k == .local || k == .cell)) = false) : swapsWith (.DictComp ke ve gs sc po) (some (.Name y py)) l env = pure true := by
  have k1 : env.kindOf y = some .local := isL
  have k2 : env.blockKind = .function := by
    unfold Env.blockKind
    rw [isF]
    rfl
  unfold swapsWith
  simp only [k2, k1, not, Expr.pos, line]
  rfl
end DR

namespace DR
open PySem PySem.Spec PyProof.Rows L2
/-! ### products of great numbers -/
def Sz (i : Int) : Prop := i.natAbs < 2 ^ 200
theorem sz_mul {i j : Int} (a : Sz i) (b : Sz j) : IntMulOk i j := .of_le (intBits_le_iff.mpr a) (intBits_le_iff.mpr b) (by decide)
theorem op_mulS {X : Cx} : OpR X (binaryOp .Mult) (rI (fun i j => Sz i ∧ Sz j) fun i j => .int (i * j)) := opI fun _ _ _ _ _ _ _ hc q => mul_int q (sz_mul hc.1 hc.2)
/-! ### sums of the program -/
def plusA (l m : Mul) : Mul := m.foldl (fun a q => addP a q.1 q.2) l
theorem vKv_len (l : Mul) : (vKv l).length = l.length := List.length_map ..
theorem plusA_len : ∀ (m l : Mul), (plusA l m).length ≤ l.length + m.length
  | [], l => Nat.le_refl _
  | q :: m, l => by
    show (plusA (addP l q.1 q.2) m).length ≤ _
    refine Nat.le_trans (plusA_len m _) ?_
    have := addP_len l q.1 q.2
    rw [List.length_cons]
    omega
theorem plusA_nm : ∀ {m l : Mul}, (∀ u ∈ m.map (·.1), NmU u) → (∀ u ∈ l.map (·.1), NmU u) → ∀ u ∈ (plusA l m).map (·.1), NmU u
  | [], l, _, h => h
  | q :: m, l, hm, h => by
    show ∀ u ∈ (plusA (addP l q.1 q.2) m).map (·.1), NmU u
    exact plusA_nm (fun u hu => hm u (List.mem_cons_of_mem _ hu)) (addP_keys h (hm q.1 (List.mem_cons_self ..)))
theorem take_not {α : Type} {l : List α} {i : Nat} {a : α} (nd : l.Nodup) (h : l[i]? = some a) : a ∉ l.take i := by
  intro hm
  obtain ⟨j, hj, ej⟩ := List.mem_iff_getElem.mp hm
  have hj2 : j < i := by
    rw [List.length_take] at hj
    omega
  have hi : i < l.length := (List.getElem?_eq_some_iff.mp h).1
  have e1 : l[i] = a := (List.getElem?_eq_some_iff.mp h).2
  have e2 : l[j] = a := by rw [← ej, List.getElem_take]
  exact List.pairwise_iff_getElem.mp nd j i (by omega) hi hj2 (e2.trans e1.symm)
theorem part_get {H : Hp} {xs : List V} {ps : Mul} (h : PySem.W.EachIs (PartT H) xs ps) {i : Nat} {x : V} (hx : xs[i]? = some x) : ∃ u m c e, ps[i]? = some (u, m) ∧ x = .ref c ∧ H c = some (.tup [.ref e, .int m]) ∧ H e = some (.tup (u.map kV)) := by
  obtain ⟨⟨u, m⟩, h1, c, e, h2, h3, h4⟩ := eachs_get h hx
  exact ⟨u, m, c, e, h1, h2, h3, h4⟩
theorem put_new {l : Mul} {u : List Key} (m : Int) (h : u ∉ l.map (·.1)) : putI l u m = l ++ [(u, m)] := putI_out m h
theorem sumT_not_non {H : Hp} {v : V} {n : Int} {ps : Mul} (h : SumT H v n ps) : decide (v = .non) = false := by
  obtain ⟨a, b, xs, rfl, _⟩ := h
  rfl
def scal (k : Int) (l : Mul) : Mul := l.map fun q => (q.1, k * q.2)
theorem scal_len (k : Int) (l : Mul) : (scal k l).length = l.length := List.length_map ..
theorem scal_keys (k : Int) (l : Mul) : (scal k l).map (·.1) = l.map (·.1) := by
  unfold scal
  rw [List.map_map]
  rfl
theorem scal_nm {k : Int} {l : Mul} (h : ∀ u ∈ l.map (·.1), NmU u) : ∀ u ∈ (scal k l).map (·.1), NmU u := by
  rw [scal_keys]
  exact h
end DR

namespace DR
open PySem PySem.Spec PyProof.Rows L2
/-! ### the law's draws -/
abbrev sCell : Stmt := topS 29
abbrev sPool : Stmt := topS 30
abbrev sTake : Stmt := topS 31
abbrev sOne : Stmt := topS 32
theorem scCell : FnScope ["script", "k"] ["script", "k"] (defScope sCell) := ⟨rfl, rfl, rfl, by decide +kernel, rfl, by decide +kernel, by decide +kernel⟩
theorem scPool : FnScope ["cell", "folded"] ["cell"] (defScope sPool) := ⟨rfl, rfl, rfl, by decide +kernel, rfl, by decide +kernel, by decide +kernel⟩
theorem scTake : FnScope ["pool", "many", "draw", "mixed"] ["pool", "many"] (defScope sTake) := ⟨rfl, rfl, rfl, by decide +kernel, rfl, by decide +kernel, by decide +kernel⟩
theorem scOne : FnScope ["pool", "things"] ["pool", "things"] (defScope sOne) := ⟨rfl, rfl, rfl, by decide +kernel, rfl, by decide +kernel, by decide +kernel⟩
/-- some int comes back -/
def spCell (K : PySem.W.Frag) : Sp := fun vs H Q _ => ∃ (l : Addr) (ns : List Int) (j : Nat), vs = [.ref l, .int (j : Int)] ∧ SqL K H l (ns.map V.int) ∧ ∀ n : Int, Q (.int n) H
section
variable {P : Program} {w : World} {K : PySem.W.Frag} {mg : Str → Option Value} {base : Heap}
theorem ok_cell {f : Addr} {fd : FuncData} (F : Fun K "_law_cell" "_law_cell" sCell f fd) (mL : mg "len" = none) : FnOk P w K mg base CX0 1 f fd ["script", "k"] (spCell K) := by
  refine F.ok scCell (fun vs H Q E h => ?_) (fun cdv A outer s H vs Q E hr h => ?_)
  · obtain ⟨l, ns, j, rfl, _⟩ := h
    rfl
  · obtain ⟨l, ns, j, rfl, hs, q⟩ := h
    refine ⟨_, pss_cons (ps_if (pt_cmpR op_lt (pv 1) (pe_callB call_len_seq (by rfl) mL PySem.boot_len (pa_cons (pv 0) pa_nil)) (nomark _))
        (pss_one (ps_ret (pe_ix ix_list (pv 0) (pv 1) (fun _ _ => rfl)))) pss_nil) (pss_one (ps_ret pe_int)), ?_⟩
    refine ⟨_, rfl, _, rfl, l, _, rfl, .inl hs, _, _, rfl, rfl, _, rfl, ?_⟩
    refine ite2 (fun hd => ?_) (fun hd => ?_)
    · have hj : (j : Int) < ((ns.map V.int).length : Int) := of_decide_eq_true hd
      rw [List.length_map] at hj
      have hj' : j < ns.length := by omega
      refine ⟨_, rfl, _, rfl, l, _, _, .int ns[j], rfl, rfl, hs, ?_, q _⟩
      unfold atI ixN
      rw [List.length_map, if_pos (by omega), if_pos (by omega)]
      show (ns.map V.int)[((j : Int)).toNat]? = _
      rw [Int.toNat_natCast, List.getElem?_map, List.getElem?_eq_getElem hj']
      rfl
    · exact q 0
end

/-- a pool of draws at p -/
structure Pool (H : Hp) (p : Addr) (c : Nat) : Prop where
  ex : ∃ a b z : Int, H p = some (.lst [.int a, .int b, .int z]) ∧ 0 ≤ a ∧ 0 ≤ b ∧ b < 1000000007 ∧ 0 ≤ z ∧ z ≤ (c : Int)
def spPool : Sp := fun vs H Q _ => ∃ n : Int, vs = [.int n] ∧ ∀ p o, H p = none → Pool (upd H p o) p 0 → Q (.ref p) (upd H p o)
def spTake : Sp := fun vs H Q _ => ∃ (p : Addr) (c : Nat) (m : Int), vs = [.ref p, .int m] ∧ Pool H p c ∧ c < 100000 ∧ 0 < m ∧ m < 1000000 ∧
  ∀ (r : Int) (o : HO), 0 ≤ r → r < m → Pool (upd H p o) p (c + 1) → Q (.int r) (upd H p o)
def spOne (K : PySem.W.Frag) : Sp := fun vs H Q _ => ∃ (p t : Addr) (c : Nat) (xs : List V), vs = [.ref p, .ref t] ∧ Pool H p c ∧ c < 100000 ∧ (SqL K H t xs ∨ SqT K H t xs) ∧ t ≠ p ∧ 0 < xs.length ∧ xs.length < 1000000 ∧
  ∀ (v : V) (o : HO), v ∈ xs → Pool (upd H p o) p (c + 1) → Q v (upd H p o)
theorem at3 {a b c : V} (i : Nat) (v : V) (h : [a, b, c][i]? = some v) : atI [a, b, c] (i : Int) = some v := by
  have hi : i < 3 := (List.getElem?_eq_some_iff.mp h).1
  unfold atI ixN
  rw [if_pos (by omega), if_pos (by show (i : Int) < ((3 : Nat) : Int); omega)]
  show ([a, b, c] : List V)[((i : Int)).toNat]? = _
  rw [Int.toNat_natCast]
  exact h
theorem pw_bound {b z : Int} (h0 : 0 ≤ b) (h1 : b < 1000000007) (h2 : 0 ≤ z) (h3 : z ≤ 100001) : CPow (b + 7919 * z + 104729) 5 := ⟨by decide, by decide, by omega⟩
section
variable {P : Program} {w : World} {K : PySem.W.Frag} {mg : Str → Option Value} {base : Heap}
theorem ok_pool {f : Addr} {fd : FuncData} (F : Fun K "_law_pool" "_law_pool" sPool f fd) (T : Bi mg) : FnOk P w K mg base CX0 1 f fd ["cell"] spPool := by
  refine F.ok scPool (fun vs H Q E h => ?_) (fun cdv A outer s H vs Q E hr h => ?_)
  · obtain ⟨n, rfl, _⟩ := h
    rfl
  · obtain ⟨n, rfl, q⟩ := h
    refine ⟨_, (pss_cons (ps_set (i := 1) scPool.nd rfl (.inl rfl) (pe_op op_mul pe_int (pv 0)))
      (pss_cons (ps_if (pt_cmpR op_lt (pv 0) pe_int (nomark _)) (pss_one (ps_set (i := 1) scPool.nd rfl (.inl rfl) (pe_op op_sub (pe_op op_sub pe_int (pe_op op_mul pe_int (pv 0))) pe_int))) pss_nil)
      (pss_cons (ps_if (pt_cmpR op_ge (pv 1) (pe_op op_pow pe_int pe_int) (nomark _)) (pss_one (ps_ret (pe_lst (pa_cons (pv 1) (pa_cons (pe_op op_mod (pe_callTy call_int1 (by rfl) T.int (by decide +kernel) (pa_cons (pv 1) pa_nil)) pe_int) (pa_cons pe_int pa_nil)))))) pss_nil)
      (pss_one (ps_ret (pe_lst (pa_cons pe_int (pa_cons (pe_op op_mod (pe_callTy call_int1 (by rfl) T.int (by decide +kernel) (pa_cons (pv 1) pa_nil)) pe_int) (pa_cons pe_int pa_nil))))))))), ?_⟩
    refine ⟨_, rfl, _, _, rfl, rfl, .inl ⟨by decide, by decide⟩, ?_⟩
    have fin : ∀ z : Int, (tSeq (tIfS (tTest (tOp (rI0 fun i j => .bl (decide (j ≤ i))) (tVar 1) (tOp (rI CPow fun i j => .int (i ^ j.toNat)) (tC (.int 10)) (tC (.int 18)))))
        (tRet (tLst (tCons (tVar 1) (tCons (tOp (rI (fun _ j => 0 < j) fun i j => .int (i % j)) (tCB (fun xs H Q => (∃ i, xs = [.int i] ∧ Q (.int i) H) ∨ ∃ k, xs = [.bl k] ∧ Q (.int (if k then 1 else 0)) H) (tCons (tVar 1) tNil)) (tC (.int 1000000007))) (tCons (tC (.int 0)) tNil))))) tNext)
        (tRet (tLst (tCons (tC (.int 0)) (tCons (tOp (rI (fun _ j => 0 < j) fun i j => .int (i % j)) (tCB (fun xs H Q => (∃ i, xs = [.int i] ∧ Q (.int i) H) ∨ ∃ k, xs = [.bl k] ∧ Q (.int (if k then 1 else 0)) H) (tCons (tVar 1) tNil)) (tC (.int 1000000007))) (tCons (tC (.int 0)) tNil))))))
        { nx := fun _ H' => Q .non H', rt := Q } [some (.int n), some (.int z)] H := by
      intro z
      refine ⟨_, rfl, _, _, rfl, rfl, ⟨by decide, by decide, by decide⟩, _, _, rfl, rfl, _, rfl, ?_⟩
      refine ite2 (fun c => ?_) (fun c => ?_)
      · have c' : (10 : Int) ^ (18 : Int).toNat ≤ z := of_decide_eq_true c
        refine ⟨_, rfl, _, rfl, .inl ⟨_, rfl, _, _, rfl, rfl, (by show (0 : Int) < 1000000007; decide), (by show 3 ≤ sizeLine; decide), fun p hp => ?_⟩⟩
        refine q p _ hp ⟨_, _, _, upd_same, Int.le_trans (by decide) c', Int.emod_nonneg _ (by decide), Int.emod_lt_of_pos _ (by decide), by decide, by decide⟩
      · refine ⟨_, rfl, .inl ⟨_, rfl, _, _, rfl, rfl, (by show (0 : Int) < 1000000007; decide), (by show 3 ≤ sizeLine; decide), fun p hp => ?_⟩⟩
        refine q p _ hp ⟨_, _, _, upd_same, by decide, Int.emod_nonneg _ (by decide), Int.emod_lt_of_pos _ (by decide), by decide, by decide⟩
    refine ⟨_, rfl, _, _, rfl, rfl, _, rfl, ?_⟩
    refine ite2 (fun c => ?_) (fun c => fin _)
    refine ⟨_, rfl, _, _, rfl, rfl, .inl ⟨by decide, by decide⟩, _, _, rfl, rfl, _, _, rfl, rfl, fin _⟩
theorem ok_take {f : Addr} {fd : FuncData} (F : Fun K "_law_take" "_law_take" sTake f fd) (T : Bi mg) : FnOk P w K mg base CX0 1 f fd ["pool", "many"] spTake := by
  refine F.ok scTake (fun vs H Q E h => ?_) (fun cdv A outer s H vs Q E hr h => ?_)
  · obtain ⟨p, c, m, rfl, _⟩ := h
    rfl
  · obtain ⟨p, c, m, rfl, ⟨a, b, z, hp, ha, hb, hb2, hz, hz2⟩, hc, hm, hm2, q⟩ := h
    refine ⟨_, (pss_cons (ps_if (pt_cmpR op_gt (pe_ix ix_list (pv 0) pe_int (fun _ _ => rfl)) pe_int (nomark _)) (pss_cons (ps_set (i := 2) scTake.nd rfl (.inl rfl) (pe_op op_mod (pe_callTy call_int1 (by rfl) T.int (by decide +kernel) (pa_cons (pe_ix ix_list (pv 0) pe_int (fun _ _ => rfl)) pa_nil)) (pv 1)))
      (pss_cons (ps_asg (pe_op op_fdiv (pe_ix ix_list (pv 0) pe_int (fun _ _ => rfl)) (pv 1)) (pg_sub (pv 0) pe_int set_list))
      (pss_one (ps_ret (pv 2))))) pss_nil)
      (pss_cons (ps_asg (pe_op op_add (pe_ix ix_list (pv 0) pe_int (fun _ _ => rfl)) pe_int) (pg_sub (pv 0) pe_int set_list))
      (pss_cons (ps_set (i := 3) scTake.nd rfl (.inl rfl) (pe_op op_mod (pe_callTy call_int1 (by rfl) T.int (by decide +kernel) (pa_cons (pe_op op_pow (pe_op op_add (pe_op op_add (pe_ix ix_list (pv 0) pe_int (fun _ _ => rfl)) (pe_op op_mul pe_int (pe_ix ix_list (pv 0) pe_int (fun _ _ => rfl)))) pe_int) pe_int) pa_nil)) pe_int))
      (pss_one (ps_ret (pe_op op_mod (pe_op op_mod (pe_callTy call_int1 (by rfl) T.int (by decide +kernel) (pa_cons (pe_op op_mul (pe_op op_add (pv 3) (pe_ix ix_list (pv 0) pe_int (fun _ _ => rfl))) pe_int) pa_nil)) pe_int) (pv 1))))))), ?_⟩
    have s0 : SqL K H p [.int a, .int b, .int z] := SqL.of hp
    refine ⟨_, rfl, p, _, _, _, rfl, rfl, s0, at3 0 _ rfl, _, _, rfl, rfl, _, rfl, ?_⟩
    refine ite2 (fun cc => ?_) (fun cc => ?_)
    · have h0 : 0 < a := of_decide_eq_true cc
      refine ⟨_, rfl, p, _, _, _, rfl, rfl, s0, at3 0 _ rfl, .inl ⟨_, rfl, _, rfl, _, _, rfl, rfl, hm, ?_⟩⟩
      refine ⟨_, rfl, p, _, _, _, rfl, rfl, s0, at3 0 _ rfl, _, rfl, _, _, rfl, rfl, ⟨hm, by omega⟩, ?_⟩
      refine ⟨_, rfl, p, _, _, 0, rfl, rfl, hp, rfl, _, rfl, ?_⟩
      exact q _ _ (Int.emod_nonneg _ (by omega)) (Int.emod_lt_of_pos _ hm) ⟨_, _, _, upd_same, Int.ediv_nonneg ha (by omega), hb, hb2, hz, by omega⟩
    · refine ⟨_, rfl, p, _, _, _, rfl, rfl, s0, at3 2 _ rfl, _, _, rfl, rfl, _, rfl, p, _, _, 2, rfl, rfl, hp, rfl, ?_⟩
      have s1 : SqL K (upd H p (.lst [.int a, .int b, .int (z + 1)])) p [.int a, .int b, .int (z + 1)] := SqL.of upd_same
      refine ⟨_, rfl, p, _, _, _, rfl, rfl, s1, at3 1 _ rfl, _, rfl, p, _, _, _, rfl, rfl, s1, at3 2 _ rfl, _, _, rfl, rfl, .inl ⟨by decide, by decide⟩, _, _, rfl, rfl, _, _, rfl, rfl, _, _, rfl, rfl, pw_bound hb hb2 (by omega) (by omega), .inl ⟨_, rfl, _, _, rfl, rfl, (by show (0 : Int) < 2147483647; decide), ?_⟩⟩
      refine ⟨_, rfl, _, rfl, p, _, _, _, rfl, rfl, s1, at3 2 _ rfl, _, _, rfl, rfl, _, _, rfl, rfl, .inr ⟨by decide, by decide⟩, .inl ⟨_, rfl, _, _, rfl, rfl, (by show (0 : Int) < 2147483629; decide), _, rfl, _, _, rfl, rfl, hm, ?_⟩⟩
      exact q _ _ (Int.emod_nonneg _ (by omega)) (Int.emod_lt_of_pos _ hm) ⟨_, _, _, upd_same, ha, hb, hb2, by omega, by omega⟩
theorem at_mem {xs : List V} {r : Int} (h0 : 0 ≤ r) (h1 : r < (xs.length : Int)) : ∃ v, atI xs r = some v ∧ v ∈ xs := by
  have h2 : r.toNat < xs.length := by omega
  refine ⟨xs[r.toNat], ?_, List.getElem_mem _⟩
  unfold atI ixN
  rw [if_pos h0, if_pos h1]
  exact List.getElem?_eq_getElem h2
theorem ok_one {f : Addr} {fd : FuncData} (F : Fun K "_law_one" "_law_one" sOne f fd) (T : Bi mg) (G : Has P w K mg base CX0 1 "_law_take" ["pool", "many"] spTake) : FnOk P w K mg base CX0 2 f fd ["pool", "things"] (spOne K) := by
  refine F.ok scOne (fun vs H Q E h => ?_) (fun cdv A outer s H vs Q E hr h => ?_)
  · obtain ⟨p, t, c, xs, rfl, _⟩ := h
    rfl
  · obtain ⟨p, t, c, xs, rfl, hP, hc, hx, hne, hl, hl2, q⟩ := h
    refine ⟨_, (pss_one (ps_ret (pe_ix ix_seq (pv 1) (pe_callH G hr (by rfl) pass0 (pa_cons (pv 0) (pa_cons (pe_callB call_len_seq (by rfl) T.len (by decide +kernel) (pa_cons (pv 1) pa_nil)) pa_nil))) (fun _ _ => rfl)))), ?_⟩
    refine ⟨_, rfl, _, rfl, _, rfl, t, xs, rfl, hx, p, c, _, rfl, hP, hc, by omega, by omega, fun r o h0 h1 hP' => ?_⟩
    obtain ⟨v, hv, hm⟩ := at_mem h0 h1
    rcases hx with hx | hx
    · refine .inl ⟨t, xs, _, v, rfl, rfl, ?_, hv, q v o hm hP'⟩
      rcases hx with (hx | ⟨u, hx⟩) | hx
      · exact .inl (.inl (by rw [upd_ne hne]; exact hx))
      · exact .inl (.inr ⟨u, by rw [upd_ne hne]; exact hx⟩)
      · exact .inr hx
    · refine .inr (.inl ⟨t, xs, _, v, rfl, rfl, ?_, hv, q v o hm hP'⟩)
      rcases hx with (hx | ⟨u, hx⟩) | hx
      · exact .inl (.inl (by rw [upd_ne hne]; exact hx))
      · exact .inl (.inr ⟨u, by rw [upd_ne hne]; exact hx⟩)
      · exact .inr hx
end

/-! ### what stays -/
abbrev sMixed : Stmt := topS 33
theorem scMixed : FnScope ["pool", "things", "left", "found", "k", "at"] ["pool", "things"] (defScope sMixed) := ⟨rfl, rfl, rfl, by decide +kernel, rfl, by decide +kernel, by decide +kernel⟩
/-- all but the pool's object stays -/
def Dr (p : Addr) (H H' : Hp) : Prop := ∀ b o, b ≠ p → H b = some o → H' b = some o
def spMixed (K : PySem.W.Frag) : Sp := fun vs H Q _ => ∃ (p t : Addr) (c : Nat) (xs : List V), vs = [.ref p, .ref t] ∧ Pool H p c ∧ c + xs.length < 100000 ∧ (SqL K H t xs ∨ SqT K H t xs) ∧ xs.length ≤ 1000 ∧
  ∀ l ys H', ys.Perm xs → Dr p H H' → Pool H' p (c + xs.length) → H l = none → H' l = some (.lst ys) → Q (.ref l) H'
theorem perm_out {xs fs ls : List V} {r : Nat} {v : V} (h : (fs ++ ls).Perm xs) (hv : ls[r]? = some v) : ((fs ++ [v]) ++ (ls.take r ++ ls.drop (r + 1))).Perm xs := by
  refine List.Perm.trans ?_ h
  rw [List.append_assoc]
  refine List.Perm.append_left fs ?_
  have hr : r < ls.length := (List.getElem?_eq_some_iff.mp hv).1
  have e : ls = ls.take r ++ (v :: ls.drop (r + 1)) := by
    have e1 : ls.drop r = v :: ls.drop (r + 1) := by
      rw [List.drop_eq_getElem_cons hr]
      rw [List.getElem?_eq_getElem hr] at hv
      rw [Option.some.inj hv]
    rw [← e1, List.take_append_drop]
  have e2 : ([v] ++ (ls.take r ++ ls.drop (r + 1))).Perm (ls.take r ++ (v :: ls.drop (r + 1))) := by
    refine List.Perm.symm ?_
    exact List.perm_middle
  rw [← e] at e2
  exact e2
theorem pool_new {H : Hp} {p q : Addr} {c : Nat} {o : HO} (h : Pool H p c) (n : H q = none) : Pool (upd H q o) p c := by
  obtain ⟨a, b, z, e, r⟩ := h
  exact ⟨a, b, z, by rw [upd_ne (fun k => by rw [← k, e] at n; cases n)]; exact e, r⟩
theorem pool_put {H : Hp} {p q : Addr} {c : Nat} {o : HO} (h : Pool H p c) (n : p ≠ q) : Pool (upd H q o) p c := by
  obtain ⟨a, b, z, e, r⟩ := h
  exact ⟨a, b, z, by rw [upd_ne n]; exact e, r⟩
theorem pool_ne {H : Hp} {p a : Addr} {c : Nat} (h : Pool H p c) (e : H a = none) : a ≠ p := fun z => by
  obtain ⟨x, y, w, hl, _⟩ := h
  rw [z, hl] at e
  cases e
section
variable {P : Program} {w : World} {K : PySem.W.Frag} {mg : Str → Option Value} {base : Heap}
theorem ok_mixed {f : Addr} {fd : FuncData} (F : Fun K "_law_mixed" "_law_mixed" sMixed f fd) (T : Bi mg) (G : Has P w K mg base CX0 1 "_law_take" ["pool", "many"] spTake) : FnOk P w K mg base CX0 2 f fd ["pool", "things"] (spMixed K) := by
  refine F.ok scMixed (fun vs H Q E h => ?_) (fun cdv A outer s H vs Q E hr h => ?_)
  · obtain ⟨p, t, c, xs, rfl, _⟩ := h
    rfl
  · obtain ⟨p, t, c, xs, rfl, hP, hc, hx, hl, q⟩ := h
    refine ⟨_, (pss_cons (ps_par (by rfl) scMixed.nd (i := 2) (j := 3) rfl rfl (by decide) rfl rfl (pa_cons (pe_callTy call_list_of (by rfl) T.list (by decide +kernel) (pa_cons (pv 1) pa_nil)) (pa_cons (pe_lst pa_nil) pa_nil)) (by rfl))
      (pss_cons (ps_for PassesOwn.never rfl (pi_range1 (by rfl) T.range (pa_cons (pe_callB call_len_seq (by rfl) T.len (by decide +kernel) (pa_cons (pv 1) pa_nil)) pa_nil)) (pg_name (i := 4) scMixed.nd rfl (.inl rfl)) (pss_cons (ps_set (i := 5) scMixed.nd rfl (.inl rfl) (pe_callH G hr (by rfl) pass0 (pa_cons (pv 0) (pa_cons (pe_callB call_len_seq (by rfl) T.len (by decide +kernel) (pa_cons (pv 2) pa_nil)) pa_nil))))
      (pss_cons (ps_expr (pe_bm PySem.F.plainAttrs_list PySem.F.slot_list_append PySem.F.type_list_append mt_append (pv 3) (pa_cons (pe_ix ix_list (pv 2) (pv 5) (fun _ _ => rfl)) pa_nil)))
      (pss_one (ps_set (i := 2) scMixed.nd rfl (.inl rfl) (pe_op op_cat (pe_slice sl_list (pv 2) po_none (po_some (pv 5))) (pe_slice sl_list (pv 2) (po_some (pe_op op_add (pv 5) pe_int)) po_none)))))))
      (pss_one (ps_ret (pv 3))))), ?_⟩
    refine ⟨_, rfl, t, xs, rfl, hx, fun L0 hL0 => ⟨(by show 0 ≤ sizeLine; decide), fun F0 hF0 => ?_⟩⟩
    refine ⟨_, _, rfl, ?_⟩
    have LF : F0 ≠ L0 := fun z => by rw [z, upd_same] at hF0; cases hF0
    have P2 := pool_new (o := .lst []) (pool_new (o := .lst xs) hP hL0) hF0
    have FH : H F0 = none := by
      rw [upd_ne LF] at hF0
      exact hF0
    have sm : Same H (upd (upd H L0 (.lst xs)) F0 (.lst [])) := (same_new hL0).trans (same_new hF0)
    have hx2 : SqL K (upd (upd H L0 (.lst xs)) F0 (.lst [])) t xs ∨ SqT K (upd (upd H L0 (.lst xs)) F0 (.lst [])) t xs := hx.imp (sqL_same sm) (sqT_same sm)
    have hlz : xs.length ≤ 1000 := hl
    refine ⟨_, rfl, t, xs, rfl, hx2, _, rfl, by omega, by omega, ?_⟩
    refine for_range (lo := 0) (n := ((xs.length : Int)).toNat) (fun i σ H1 => ∃ (L : Addr) (fs ls : List V) (o4 o5 : Option V), σ = [some (.ref p), some (.ref t), some (.ref L), some (.ref F0), o4, o5] ∧ Dr p H H1 ∧ Pool H1 p (c + i) ∧ H1 L = some (.lst ls) ∧ H1 F0 = some (.lst fs) ∧
        (fs ++ ls).Perm xs ∧ fs.length = i ∧ L ≠ F0 ∧ L ≠ p ∧ H L = none) ⟨L0, [], xs, none, none, rfl, fun b o _ e => sm _ _ e, P2, ?_, upd_same, .refl _, rfl, fun z => LF z.symm, pool_ne hP hL0, hL0⟩ ?_ ?_
    · rw [upd_ne (fun z => LF z.symm)]
      exact upd_same
    · rintro i σ H1 hi ⟨L, fs, ls, o4, o5, rfl, kp, hP1, hL, hF, pm, fl, nLF, nLp, HL⟩
      have lx := pm.length_eq
      rw [List.length_append] at lx
      have hi2 : i < xs.length := by omega
      have hls : 0 < ls.length := by omega
      have nFp : F0 ≠ p := pool_ne hP FH
      refine ⟨_, rfl, _, rfl, L, ls, rfl, .inl (SqL.of hL), p, c + i, _, rfl, hP1, by omega, by omega, by omega, fun r o h0 h1 hP2 => ?_⟩
      obtain ⟨r, rfl⟩ := Int.eq_ofNat_of_zero_le h0
      have hr : r < ls.length := by omega
      have hv := List.getElem?_eq_getElem hr
      have hL2 : (upd H1 p o) L = some (.lst ls) := by rw [upd_ne nLp]; exact hL
      have hF2 : (upd H1 p o) F0 = some (.lst fs) := by rw [upd_ne nFp]; exact hF
      have av : atI ls (r : Int) = some ls[r] := by
        unfold atI ixN
        rw [if_pos (by omega), if_pos (by omega)]
        show ls[((r : Int)).toNat]? = _
        rw [Int.toNat_natCast]
        exact hv
      refine ⟨_, rfl, .inl ⟨rfl, fs, SqL.of hF2⟩, _, rfl, _, rfl, L, ls, _, _, rfl, rfl, SqL.of hL2, av, F0, fs, _, rfl, rfl, hF2, small1000 (by omega), ?_⟩
      have hL3 : (upd (upd H1 p o) F0 (.lst (fs ++ [ls[r]]))) L = some (.lst ls) := by rw [upd_ne nLF]; exact hL2
      have hF3 : (upd (upd H1 p o) F0 (.lst (fs ++ [ls[r]]))) F0 = some (.lst (fs ++ [ls[r]])) := upd_same
      have hP3 := pool_put (o := .lst (fs ++ [ls[r]])) hP2 (fun z => nFp z.symm)
      have kp3 : Dr p H (upd (upd H1 p o) F0 (.lst (fs ++ [ls[r]]))) := fun b x n e => by
        rw [upd_ne (ne_of_none e FH), upd_ne n]
        exact kp b x n e
      generalize upd (upd H1 p o) F0 (.lst (fs ++ [ls[r]])) = H3 at hL3 hF3 hP3 kp3 ⊢
      refine ⟨_, rfl, _, rfl, _, rfl, L, ls, rfl, SqL.of hL3, fun a1 ha1 => ?_⟩
      have t1 := same_new (o := .lst (cutV ls none (some (r : Int)))) ha1
      refine ⟨_, rfl, _, rfl, _, _, rfl, rfl, _, rfl, L, ls, rfl, SqL.of (t1 _ _ hL3), fun a2 ha2 => ?_⟩
      have er : (r : Int) + 1 = ((r + 1 : Nat) : Int) := by omega
      rw [er, cut_to (by omega), cut_from (by omega)] at *
      have t2 := same_new (o := .lst (ls.drop (r + 1))) ha2
      have e1 := t2 _ _ (show (upd H3 a1 (.lst (ls.take r))) a1 = some (.lst (ls.take r)) from upd_same)
      refine ⟨a1, a2, _, _, rfl, rfl, e1, upd_same, ?_, fun L2 hL2 => ?_⟩
      · rw [List.length_take, List.length_drop]
        exact Nat.le_of_lt (small1000 (by omega))
      have t3 := same_new (o := .lst (ls.take r ++ ls.drop (r + 1))) hL2
      have tt := (t1.trans t2).trans t3
      have hP4 := pool_new (o := .lst (ls.take r ++ ls.drop (r + 1))) (pool_new (o := .lst (ls.drop (r + 1))) (pool_new (o := .lst (ls.take r)) hP3 ha1) ha2) hL2
      have nL2p : L2 ≠ p := pool_ne (pool_new (o := .lst (ls.drop (r + 1))) (pool_new (o := .lst (ls.take r)) hP3 ha1) ha2) hL2
      refine ⟨L2, fs ++ [ls[r]], ls.take r ++ ls.drop (r + 1), _, _, rfl, fun b x n e => tt _ _ (kp3 b x n e), hP4, upd_same, tt _ _ hF3, perm_out pm hv, by simp [fl], fun z => ?_, nL2p, ?_⟩
      · have q1 := (t1.trans t2) _ _ hF3
        rw [← z, hL2] at q1
        cases q1
      · cases e : H L2 with
        | none => rfl
        | some x =>
          have q1 := (t1.trans t2) _ _ (kp3 _ _ nL2p e)
          rw [hL2] at q1
          cases q1
    · rintro σ H1 ⟨L, fs, ls, o4, o5, rfl, kp, hP1, hL, hF, pm, fl, nLF, nLp, HL⟩
      have e : ((xs.length : Int)).toNat = xs.length := Int.toNat_natCast _
      rw [e] at hP1 fl
      have lx := pm.length_eq
      rw [List.length_append] at lx
      have z : ls = [] := List.eq_nil_of_length_eq_zero (by omega)
      rw [z, List.append_nil] at pm
      exact ⟨_, rfl, q F0 fs H1 pm kp hP1 FH hF⟩
end
end DR

namespace DR
open PySem PySem.Spec PyProof.Rows L2
/-! ### the law's keys and its order -/
/-- the pair of a key and an unknown -/
def PairK (H : Hp) (y : V) (u : List Key) : Prop := ∃ c a b k o, y = .ref c ∧ H c = some (.tup [.ref a, .ref b]) ∧ u = [.inr k, o] ∧ H a = some (.tup [.int ((rank k).getD 0), kV o]) ∧ H b = some (.tup [.str k, kV o])
def encK (u : List Key) : PyData := .tuple [keyD u, unkD u]
def leK : List Key → List Key → Bool := PySem.W.dataLe false encK
theorem keyDat_kD (o : Key) : keyDat o = kD o := by cases o <;> rfl
theorem pairK_dp {K : PySem.W.Frag} {H : Hp} {y : V} {u : List Key} (h : PairK H y u) : Dp K H y (encK u) := by
  obtain ⟨c, a, b, k, o, rfl, hc, rfl, ha, hb⟩ := h
  refine .tup (SqT.of hc) (.cons ?_ (.cons (dp_unk ⟨b, rfl, hb⟩) .nil))
  rw [keyD_is, ← keyDat_kD]
  exact .tup (SqT.of ha) (.cons (.int _) (.cons (dp_key o) .nil))
theorem pairK_s {H H' : Hp} (e : TupS H H') {y : V} {u : List Key} (h : PairK H y u) : PairK H' y u := by
  obtain ⟨c, a, b, k, o, h1, h2, h3, h4, h5⟩ := h
  exact ⟨c, a, b, k, o, h1, e _ _ h2, h3, e _ _ h4, e _ _ h5⟩
theorem R1_key {u u' : List Key} (h : NmU u) (h' : NmU u') : R1 (keyD u) (keyD u') := by
  obtain ⟨i, z, e⟩ := keyD_nm h
  obtain ⟨i', z', e'⟩ := keyD_nm h'
  exact .inr ⟨_, _, e, e', cmp_key h h' e e'⟩
theorem key_same {u u' : List Key} (h : NmU u) (h' : NmU u') (e : PyData.eqv (keyD u) (keyD u') = true) : u = u' := key_inj h h' ((toks_R1 _ _ (R1_key h h')).1 e)
theorem alike_unkD {u : List Key} (h : NmU u) : PySem.W.alike (unkD u) (unkD u) = true := by
  obtain ⟨k, o, rfl, _⟩ := h
  have := alike_kD o
  show PySem.W.alike (.tuple [.str k, keyDat o]) (.tuple [.str k, keyDat o]) = true
  rw [keyDat_kD]
  simp [PySem.W.alike, PySem.W.alikeAll, this]
theorem plain_unkD {u : List Key} (h : NmU u) : (unkD u).plain = true := by
  obtain ⟨k, o, rfl, _⟩ := h
  have := lay_kD o
  show (PyData.tuple [.str k, keyDat o]).plain = true
  rw [keyDat_kD]
  simp [PyData.plain, PyData.plainAll, this]
theorem plain_keyD {u : List Key} (h : NmU u) : (keyD u).plain = true := by
  obtain ⟨i, z, e⟩ := keyD_nm h
  rw [e]
  have := lay_kD z
  simp [PyData.plain, PyData.plainAll, this]
theorem cmp_enc {u u' : List Key} (h : NmU u) (h' : NmU u') : cmpL R1 [keyD u, unkD u] [keyD u', unkD u'] :=
  ⟨R1_key h h', fun e => by
    obtain rfl := key_same h h' e
    exact ⟨.inl (alike_unkD h), fun _ => trivial⟩⟩
theorem mix_enc {us : List (List Key)} (h : ∀ u ∈ us, NmU u) : Mix (us.map encK) (.type "tuple") := by
  refine ⟨fun d hd => ?_, fun xs ys hx hy => ?_, fun d hd => ?_⟩
  · obtain ⟨u, hu, rfl⟩ := List.mem_map.mp hd
    obtain ⟨i, z, e⟩ := keyD_nm (h u hu)
    exact ⟨_, _, rfl, by rw [e]; rfl⟩
  · obtain ⟨u, hu, e⟩ := List.mem_map.mp hx
    obtain ⟨u', hu', e'⟩ := List.mem_map.mp hy
    obtain rfl := PyData.tuple.inj e
    obtain rfl := PyData.tuple.inj e'
    exact cmp_enc (h u hu) (h u' hu')
  · obtain ⟨u, hu, rfl⟩ := List.mem_map.mp hd
    have h1 := plain_keyD (h u hu)
    have h2 := plain_unkD (h u hu)
    simp [encK, PyData.plain, PyData.plainAll, h1, h2]
theorem leK_is {a b : List Key} (ha : NmU a) (hb : NmU b) : leK a b = le2 a b := by
  show (!PySem.W.dataLt (encK b) (encK a)) = !PySem.W.dataLt (keyD b) (keyD a)
  cases e : PyData.eqv (keyD b) (keyD a) with
  | true =>
    obtain rfl := key_same hb ha e
    unfold PySem.W.dataLt
    rw [lex_irrefl, lex_irrefl]
  | false =>
    unfold encK
    rw [PySem.W.dataLt_tuple, lt_no toks_R1 (R1_key hb ha) e]
theorem sort_leK {us : List (List Key)} (h : ∀ u ∈ us, NmU u) : us.mergeSort leK = us.mergeSort le2 := PySem.W.sort_congr fun a ha b hb => leK_is (h a ha) (h b hb)
theorem depth_enc {u : List Key} (h : NmU u) : (encK u).depth ≤ 5 := by
  obtain ⟨k, o, rfl, _⟩ := h
  cases o <;> simp [encK, keyD, unkD, keyDat, PyData.depth, PyData.depthAll]
/-- sorted of such pairs -/
def rSortedK (K : PySem.W.Frag) : List V → Hp → VK → Prop := fun vs H Q => ∃ (a : Addr) (xs : List V) (us : List (List Key)), vs = [.ref a] ∧ SqL K H a xs ∧ PySem.W.EachIs (PairK H) xs us ∧ (∀ u ∈ us, NmU u) ∧
  ∀ (ys : List V) (p : Addr), PySem.W.EachIs (PairK H) ys (us.mergeSort le2) → H p = none → Q (.ref p) (upd H p (.lst ys))
theorem each_valsK {H : Hp} : ∀ {xs : List V} {its : List Value} {us : List (List Key)}, PySem.W.EachIs (PairK H) xs us → Vals xs its → PySem.W.EachIs (fun v u => ∃ y, L2.RelV y v ∧ PairK H y u) its us
  | _, _, _, .nil, .nil => .nil
  | _, _, _, .cons h t, .cons r rt => .cons ⟨_, r, h⟩ (each_valsK t rt)
theorem each_backK {H : Hp} : ∀ {its : List Value} {us : List (List Key)}, PySem.W.EachIs (fun v u => ∃ y, L2.RelV y v ∧ PairK H y u) its us → ∃ ys, Vals ys its ∧ PySem.W.EachIs (PairK H) ys us
  | _, _, .nil => ⟨[], .nil, .nil⟩
  | _, _, .cons ⟨y, r, h⟩ t => by
    obtain ⟨ys, r1, h1⟩ := each_backK t
    exact ⟨y :: ys, .cons r r1, .cons h h1⟩
theorem cr_sortedK {X : Cx} {k : Nat} (hr : Room k X.A) : CallR X (.builtin "sorted") (rSortedK X.K) := by
  intro pn s σ H vs ws Q I r h
  obtain ⟨a, xs, us, rfl, hs, he, nm, q⟩ := h
  obtain ⟨its, rv, hl, hz⟩ := I.list hs
  obtain ⟨u, rfl, ru⟩ := vals1 r
  obtain rfl : u = Value.ref a := ru
  have e := each_valsK he rv
  have er : PySem.W.EachIs (fun v u => ∃ as, Reads s.heap v (encK u) as) its us := eachs_imp (fun v u ⟨y, ry, hy⟩ => Dp.reads I (encK u) y v (pairK_dp hy) ry) e
  have lz : us.length ≤ sizeLine := by
    rw [← he.length]
    exact hz
  refine sorted_mix (bs := us) (enc := encK) (R := fun v u => ∃ y, L2.RelV y v ∧ PairK H y u) hl.isList e er (mix_enc nm) (by decide) lz (fun u hu => ?_) fun out hol ho => ?_
  · have h1 := depth_enc (nm u hu)
    have h2 := hr.units
    omega
  · rw [show us.mergeSort (PySem.W.dataLe false encK) = us.mergeSort le2 from sort_leK nm] at ho
    obtain ⟨ys, rv2, hy⟩ := each_backK ho
    obtain ⟨n, hn⟩ := sortedAll_at s.heap its out.toArray
    refine ⟨.ref (s.heap.objs.size + 1), upd H (s.heap.objs.size + 1) (.lst ys), I.laid (t' := s.toks) (fun b o e => sortedAll_old e) (Nat.le_succ _) ⟨?_, _, n, rv2, hn⟩, rfl, q ys _ hy (I.hok.fresh (Nat.le_succ _))⟩
    rw [hy.length, (List.mergeSort_perm _ _).length_eq]
    exact lz
/-! ### _law_key -/
def spLKey : Sp := fun vs H Q _ => ∃ (a : Addr) (k : Str) (o : Key), vs = [.ref a] ∧ H a = some (.tup [.str k, kV o]) ∧ (rank k).isSome = true ∧ ∀ p H', Same H H' → H' p = some (.tup [.int ((rank k).getD 0), kV o]) → Q (.ref p) H'
abbrev sLKey : Stmt := topS 34
theorem scLKey : FnScope ["unknown"] ["unknown"] (defScope sLKey) := ⟨rfl, rfl, rfl, by decide +kernel, rfl, by decide +kernel, by decide +kernel⟩
theorem rank_cases {k : Str} (h : (rank k).isSome = true) : k = sPiece ∨ k = sName ∨ k = sIn := by
  unfold rank at h
  by_cases c : k = sPiece
  · exact .inl c
  · rw [if_neg c] at h
    by_cases d : k = sName
    · exact .inr (.inl d)
    · rw [if_neg d] at h
      by_cases e : k = sIn
      · exact .inr (.inr e)
      · rw [if_neg e] at h
        cases h
theorem rank_at {k : Str} (h : (rank k).isSome = true) : ∃ (j : Nat) (z : V), (rank k).getD 0 = (j : Int) ∧ [V.str sPiece, V.str sName, V.str sIn][j]? = some z ∧ eqV z (.str k) = true ∧ ∀ (m : Nat) (z' : V), m < j → [V.str sPiece, V.str sName, V.str sIn][m]? = some z' → eqV z' (.str k) = false := by
  rcases rank_cases h with rfl | rfl | rfl
  · exact ⟨0, _, by decide +kernel, rfl, by decide +kernel, fun m z' hm => absurd hm (Nat.not_lt_zero _)⟩
  · refine ⟨1, _, by decide +kernel, rfl, by decide +kernel, fun m z' hm e => ?_⟩
    obtain rfl : m = 0 := by omega
    obtain rfl := Option.some.inj e
    decide +kernel
  · refine ⟨2, _, by decide +kernel, rfl, by decide +kernel, fun m z' hm e => ?_⟩
    rcases (by omega : m = 0 ∨ m = 1) with rfl | rfl
    · obtain rfl := Option.some.inj e
      decide +kernel
    · obtain rfl := Option.some.inj e
      decide +kernel
section
variable {P : Program} {w : World} {K : PySem.W.Frag} {mg : Str → Option Value} {base : Heap}
theorem ok_lkey {f : Addr} {fd : FuncData} (F : Fun K "_law_key" "_law_key" sLKey f fd) : FnOk P w K mg base CX0 1 f fd ["unknown"] spLKey := by
  refine F.ok scLKey (fun vs H Q E h => ?_) (fun cdv A outer s H vs Q E hr h => ?_)
  · obtain ⟨a, k, o, rfl, _⟩ := h
    rfl
  · obtain ⟨a, k, o, rfl, ha, hk, q⟩ := h
    refine ⟨_, (pss_one (ps_ret (pe_tup (pa_cons (pe_bm PySem.F.plainAttrs_list PySem.F.slot_list_index PySem.F.type_list_index mt_index (pe_lst (pa_cons pe_str (pa_cons pe_str (pa_cons pe_str pa_nil)))) (pa_cons (pe_ix ix_tup (pv 0) pe_int (fun _ _ => rfl)) pa_nil)) (pa_cons (pe_ix ix_tup (pv 0) pe_int (fun _ _ => rfl)) pa_nil))))), ?_⟩
    refine ⟨(by show 3 ≤ sizeLine; decide), fun l hl => ?_⟩
    have s1 := same_new (o := .lst [V.str sPiece, V.str sName, V.str sIn]) hl
    have hl1 : upd H l (.lst [V.str sPiece, V.str sName, V.str sIn]) l = some (.lst [V.str sPiece, V.str sName, V.str sIn]) := upd_same
    have ha1 := s1 _ _ ha
    obtain ⟨j, z, ej, hz, hzj, hno⟩ := rank_at hk
    refine ⟨.inl ⟨rfl, _, SqL.of hl1⟩, _, rfl, a, _, _, _, rfl, rfl, SqT.of ha1, at_of (i := 0) rfl, ?_⟩
    refine ⟨l, _, .str k, j, z, rfl, rfl, SqL.of hl1, rfl, rfl, hz, hzj, hno, ?_⟩
    refine ⟨_, rfl, a, _, _, _, rfl, rfl, SqT.of ha1, at_of (i := 1) rfl, (by show 2 ≤ sizeLine; decide), fun p hp => ?_⟩
    refine q _ _ (s1.trans (same_new hp)) ?_
    rw [upd_same, ej]
end
end DR

namespace DR
open PySem PySem.Spec PyProof.Rows L2
/-! ### _law_total -/
theorem accA_len (l : Mul) : (accAll l).length ≤ l.length := by
  have := plusA_len l []
  rw [List.length_nil, Nat.zero_add] at this
  exact this
theorem accA_nm {l : Mul} (h : ∀ u ∈ l.map (·.1), NmU u) : ∀ u ∈ (accAll l).map (·.1), NmU u := plusA_nm (l := []) h (fun u hu => by simp at hu)
def spTotal (K : PySem.W.Frag) : Sp := fun vs H Q _ => ∃ (n : Int) (l : Addr) (xs : List V) (ps : Mul), vs = [.int n, .ref l] ∧ (SqL K H l xs ∨ SqT K H l xs) ∧ PySem.W.EachIs (PartT H) xs ps ∧ (∀ u ∈ ps.map (·.1), NmU u) ∧ ps.length ≤ 400 ∧
  ∀ v' H', Same H H' → SumT H' v' n (form (accAll ps)) → Q v' H'
abbrev sTotal : Stmt := topS 35
theorem scTotal : FnScope ["number", "pairs", "found", "unknown", "many", "order", "key"] ["number", "pairs"] (defScope sTotal) := ⟨rfl, rfl, rfl, by decide +kernel, rfl, by decide +kernel, by decide +kernel⟩
theorem eachK_s {H H' : Hp} (e : TupS H H') {ys : List V} {us : List (List Key)} (h : PySem.W.EachIs (PairK H) ys us) : PySem.W.EachIs (PairK H') ys us := eachs_imp (fun _ _ => pairK_s e) h
section
variable {P : Program} {w : World} {K : PySem.W.Frag} {mg : Str → Option Value} {base : Heap}
theorem ok_total {f : Addr} {fd : FuncData} (F : Fun K "_law_total" "_law_total" sTotal f fd) (T : Bi mg) (G : Has P w K mg base CX0 2 "_law_key" ["unknown"] spLKey) : FnOk P w K mg base CX0 3 f fd ["number", "pairs"] (spTotal K) := by
  refine F.ok scTotal (fun vs H Q E h => ?_) (fun cdv A outer s H vs Q E hr h => ?_)
  · obtain ⟨n, l, xs, ps, rfl, _⟩ := h
    rfl
  · obtain ⟨n, l, xs, ps, rfl, hs, hxs, nm, few, q⟩ := h
    have hu := hu_of hr
    refine ⟨_, (pss_cons (ps_set (i := 2) scTotal.nd rfl (.inr rfl) (pe_dnewT))
      (pss_cons (ps_for PassesOwn.never rfl (pi_seq (pv 1)) (pg_tup rfl (pgs_cons (pg_name (i := 3) scTotal.nd rfl (.inl rfl)) (pgs_cons (pg_name (i := 4) scTotal.nd rfl (.inl rfl)) pgs_nil)))
        (pss_one (ps_dput hu (pv 2) (pv 3) (pe_op op_add (pe_dget2 hu (pv 2) (pv 3) pe_int ⟨rfl, rfl, rfl, rfl⟩) (pv 4)) rfl)))
      (pss_cons (ps_set (i := 5) scTotal.nd rfl (.inl rfl) (pe_callB (cr_sortedK hr) (by rfl) T.sorted (by decide +kernel) (pa_cons (pe_lock (pe_lc (own := [("unknown", 3)]) (g := gName 3) (tt := _) rfl scTotal.nd (pi_keys (pv 2)) (blkOk_by (N := ["number", "pairs", "found", "unknown", "many", "order", "key"]) (sc := defScope sTotal) (by decide +kernel)) (fun _ _ _ _ _ => pg_name (i := 3) scTotal.nd rfl (.inl rfl))
          (fun _ _ _ _ _ => pts_one (pt_cmpR op_ne (pe_dget hu (pv 2) (pv 3) (fun _ _ => rfl)) pe_int (nomark _))) (fun _ _ _ _ _ => (pe_tup (pa_cons (pe_callH G hr (by rfl) pass0 (pa_cons (pv 3) pa_nil)) (pa_cons (pv 3) pa_nil)))))) pa_nil)))
      (pss_one (ps_ret (pe_tup (pa_cons (pv 0) (pa_cons (pe_callTy call_tuple_of (by rfl) T.tuple (by decide +kernel) (pa_cons (pe_lc (own := [("key", 6), ("unknown", 3)]) (g := gTup K 2 (gCons (gName 6) (gCons (gName 3) gNil))) (tt := tYes) rfl scTotal.nd (pi_list (pv 5)) (blkOk_by (N := ["number", "pairs", "found", "unknown", "many", "order", "key"]) (sc := defScope sTotal) (by decide +kernel))
          (fun _ _ _ _ _ => (pg_tup rfl (pgs_cons (pg_name (i := 6) scTotal.nd rfl (.inl rfl)) (pgs_cons (pg_name (i := 3) scTotal.nd rfl (.inl rfl)) pgs_nil)))) (fun _ _ _ _ _ => pts_nil) (fun _ _ _ _ _ => (pe_tup (pa_cons (pv 3) (pa_cons (pe_dget hu (pv 2) (pv 3) (fun _ _ => rfl)) pa_nil))))) pa_nil)) pa_nil)))))))), ?_⟩
    refine fun d hD0 => ?_
    have s0 : Same H (upd H d (.dT [])) := same_new hD0
    have lx : xs.length = ps.length := hxs.length
    refine ⟨_, rfl, l, xs, rfl, row_sq s0 hs, fun J Gd W hG => ?_⟩
    refine for_it W (fun i σ H4 => ∃ (w1 w2 : Option V), σ = [some (.int n), some (.ref l), some (.ref d), w1, w2, none, none] ∧ Same H H4 ∧ H4 d = some (.dT (vKv (accAll (ps.take i)))))
      ⟨none, none, rfl, s0, upd_same⟩ (fun i σ H4 _ ⟨_, _, _, s4, _⟩ => hG H4 (fun z => sqL_same s4 (sqL_drop z)) (fun z => sqT_same s4 (sqT_drop z))) ?_ ?_
    · rintro i x σ H4 H4' hi ⟨w1, w2, rfl, s4, hD4⟩ ⟨rfl, hx⟩
      obtain ⟨u, m, c, e, hum, rfl, hc, he⟩ := part_get hxs hx
      have hi2 : i < ps.length := (List.getElem?_eq_some_iff.mp hum).1
      have al := accA_len (ps.take i)
      rw [List.length_take] at al
      refine ⟨c, _, rfl, SqT.of (s4 _ _ hc), rfl, _, _, rfl, _, _, rfl, rfl, ?_⟩
      refine ⟨_, rfl, d, rfl, .inr ⟨_, .inl hD4⟩, _, rfl, _, DGet.t hD4 (s4 _ _ he), _, rfl, getI (accAll (ps.take i)) u, m, getD_val _ u, rfl, ?_⟩
      refine ⟨_, rfl, _, rfl, d, _, rfl, DPut.t hD4 (s4 _ _ he) (by
        rw [vKv_len]
        exact small1000 (by omega)), ?_⟩
      rw [put_vKv]
      refine ⟨_, _, rfl, fun b o eb => ?_, ?_⟩
      · rw [upd_ne (ne_of_none eb hD0)]
        exact s4 _ _ eb
      · rw [upd_same, List.take_add_one, hum]
        unfold accAll
        rw [List.foldl_append]
        rfl
    · rintro σ H0 ⟨w1, w2, rfl, sH, hd⟩
      rw [lx, List.take_length] at hd
      have al := accA_len ps
      have hn := accA_nm nm
      generalize accAll ps = kvs at hd al hn q
      refine ⟨d, _, hd, trivial, fun od => ⟨_, rfl, d, od, rfl, .inr ⟨_, upd_same, fun D hD => ?_⟩⟩⟩
      have lenK : (vKv kvs).length = kvs.length := List.length_map _
      have hDd : D ≠ d := by
        intro z
        rw [z, upd_same] at hD
        cases hD
      have hDn : H0 D = none := by
        rw [upd_ne hDd] at hD
        exact hD
      refine lc_it walk_keysT (fun i H1 => (∀ b o, b ≠ D → upd H0 d (.frz od (.dT (vKv kvs))) b = some o → H1 b = some o) ∧ ∃ ys, H1 D = some (.lst ys) ∧ ys.length ≤ i ∧ PySem.W.EachIs (PairK H1) ys (((kvs.take i).map (·.1)).filter fun u => !decide (getI kvs u = 0)))
        ⟨fun b o hb e => by rw [upd_ne hb]; exact e, [], upd_same, Nat.le_refl _, .nil⟩ (fun i H1 _ ⟨kp, _⟩ => kp _ _ hDd.symm upd_same) ?_ ?_
      · rintro i x H1 H1' hi ⟨kp, ys, hD1, hlen, he⟩ ⟨rfl, k, v, qa, hk, rfl, hq⟩
        have hi' : i < kvs.length := by rw [lenK] at hi; exact hi
        obtain ⟨⟨k0, m⟩, hm⟩ : ∃ p, kvs[i]? = some p := ⟨kvs[i], List.getElem?_eq_getElem hi'⟩
        have hk2 : (k, v) = (k0, V.int m) := by
          unfold vKv at hk
          rw [List.getElem?_map, hm] at hk
          exact (Option.some.inj hk).symm
        cases hk2
        have hmem : k ∈ kvs.map (·.1) := List.mem_map.mpr ⟨_, List.mem_of_getElem? hm, rfl⟩
        have hd1 : H1' d = some (.frz od (.dT (vKv kvs))) := kp _ _ hDd.symm upd_same
        refine ⟨rfl, _, rfl, _, rfl, d, .int (getI kvs k), rfl, .inr ⟨vKv kvs, k, qa, .inr ⟨od, hd1⟩, rfl, hq, (valV_mem hmem).symm⟩, rfl, _, rfl, ?_⟩
        rw [eq_int]
        have tk : (kvs.take (i + 1)).map (·.1) = (kvs.take i).map (·.1) ++ [k] := by
          rw [List.take_add_one, hm]
          simp
        cases c : !decide (getI kvs k = 0) with
        | true =>
          obtain ⟨kk, o, rfl, hk1, _⟩ := hn k hmem
          refine iteT ⟨_, rfl, qa, kk, o, rfl, hq, hk1, fun p H2 s2 hp => ?_⟩
          refine ⟨_, rfl, (by show 2 ≤ sizeLine; decide), fun t ht => ?_⟩
          have st := same_new (o := .tup [V.ref p, V.ref qa]) ht
          have hD3 : upd H2 t (.tup [V.ref p, V.ref qa]) D = some (.lst ys) := st _ _ (s2 _ _ hD1)
          have tD : t ≠ D := fun z => by
            rw [z, s2 _ _ hD1] at ht
            cases ht
          have ts : TupS H1' (upd (upd H2 t (.tup [V.ref p, V.ref qa])) D (.lst (ys ++ [.ref t]))) := (TupS.of (s2.trans st)).trans (TupS.put hD3 (by intro xs z; cases z))
          have ts2 : TupS (upd H2 t (.tup [V.ref p, V.ref qa])) (upd (upd H2 t (.tup [V.ref p, V.ref qa])) D (.lst (ys ++ [.ref t]))) := TupS.put hD3 (by intro xs z; cases z)
          refine ⟨ys, hD3, small1000 (by omega), fun b o' hb e => ?_, ys ++ [.ref t], upd_same, by simp; omega, ?_⟩
          · rw [upd_ne hb]
            exact st _ _ (s2 _ _ (kp b o' hb e))
          · rw [tk, List.filter_append]
            have z : [([.inr kk, o] : List Key)].filter (fun u => !decide (getI kvs u = 0)) = [[.inr kk, o]] := by simp [List.filter, c]
            rw [z]
            exact eachs_snoc ⟨t, p, qa, kk, o, rfl, ts2 _ _ upd_same, rfl, ts2 _ _ (st _ _ hp), ts _ _ hq⟩ (eachK_s ts he)
        | false =>
          refine iteF ⟨kp, ys, hD1, by omega, ?_⟩
          rw [tk, List.filter_append]
          have z : [k].filter (fun u => !decide (getI kvs u = 0)) = [] := by simp [List.filter, c]
          rw [z, List.append_nil]
          exact he
      · rintro H1 ⟨kp, ys, hD1, hlen, he⟩
        have tl : (kvs.take (vKv kvs).length) = kvs := by rw [lenK]; exact List.take_length
        rw [tl] at he
        have hd1 : H1 d = some (.frz od (.dT (vKv kvs))) := kp _ _ hDd.symm upd_same
        have sm : Same H0 (upd H1 d (.dT (vKv kvs))) := fun b o e => by
          by_cases hb : b = d
          · rw [hb] at e ⊢
            rw [upd_same]
            exact hd.symm.trans e
          · rw [upd_ne hb]
            refine kp b o (ne_of_none e hDn) ?_
            rw [upd_ne hb]
            exact e
        have eD : (upd H1 d (.dT (vKv kvs))) D = some (.lst ys) := by
          rw [upd_ne hDd]
          exact hD1
        have he2 : PySem.W.EachIs (PairK (upd H1 d (.dT (vKv kvs)))) ys (keysN kvs) := eachK_s (TupS.put hd1 (by intro xs z; cases z)) he
        have hnK : ∀ u ∈ keysN kvs, NmU u := fun u hu => hn u (List.mem_filter.mp hu).1
        refine ⟨hd1, D, ys, keysN kvs, rfl, SqL.of eD, he2, hnK, fun zs p hz hp => ?_⟩
        generalize hH2 : upd H1 d (.dT (vKv kvs)) = H2 at sm eD he2 hp hz ⊢
        have h2d : H2 d = some (.dT (vKv kvs)) := by rw [← hH2, upd_same]
        have sm3 : Same H2 (upd H2 p (.lst zs)) := same_new hp
        have hz3 : PySem.W.EachIs (PairK (upd H2 p (.lst zs))) zs ((keysN kvs).mergeSort le2) := eachK_s (TupS.of sm3) hz
        have lz : zs.length = ((keysN kvs).mergeSort le2).length := hz.length
        have lz2 : zs.length ≤ 1000 := by
          rw [lz, (List.mergeSort_perm _ _).length_eq]
          unfold keysN
          refine Nat.le_trans (List.length_filter_le _ _) ?_
          rw [List.length_map]
          omega
        generalize hH3 : upd H2 p (.lst zs) = H3 at sm3 hz3 ⊢
        have h3d : H3 d = some (.dT (vKv kvs)) := sm3 _ _ h2d
        have h3p : H3 p = some (.lst zs) := by rw [← hH3, upd_same]
        refine ⟨_, rfl, _, rfl, p, rfl, ⟨_, SqL.of h3p⟩, fun D2 hD2 => ?_⟩
        have pD2 : p ≠ D2 := ne_of_none h3p hD2
        refine lc_it (walk_list (xs := zs)) (fun i H4 => (∀ b o, b ≠ D2 → H3 b = some o → H4 b = some o) ∧ ∃ ps, H4 D2 = some (.lst ps) ∧ ps.length = i ∧ PySem.W.EachIs (PartT H4) ps ((((keysN kvs).mergeSort le2).take i).map fun u => (u, getI kvs u)))
          ⟨fun b o hb e => by rw [upd_ne hb]; exact e, [], upd_same, rfl, .nil⟩ (fun i H4 _ ⟨kp, _⟩ => SqL.of (kp _ _ pD2 h3p)) ?_ ?_
        · rintro i x H4 H4' hi ⟨kp4, ps, h4D, hps, hdp⟩ ⟨rfl, hx⟩
          obtain ⟨u, hu1, c, ka, a, kk, o, rfl, hc, rfl, hka, ha⟩ := eachs_get hz3 hx
          have ha4 := kp4 _ _ (ne_of_none ha hD2) ha
          have h4d := kp4 _ _ (ne_of_none h3d hD2) h3d
          have hmem : [.inr kk, o] ∈ kvs.map (·.1) := (List.mem_filter.mp (mem_sort (List.mem_of_getElem? hu1))).1
          refine ⟨c, _, rfl, SqT.of (kp4 _ _ (ne_of_none hc hD2) hc), rfl, _, _, rfl, _, _, rfl, rfl, rfl, yes_go (iteT ⟨_, rfl, _, rfl, _, rfl, d, .int (getI kvs [.inr kk, o]), rfl, .inr ⟨vKv kvs, [.inr kk, o], a, .inl h4d, rfl, ha4, (valV_mem hmem).symm⟩, (by show 2 ≤ sizeLine; decide), fun t ht => ⟨ps, ?_, small1000 (by omega), ?_, ps ++ [.ref t], upd_same, by simp; omega, ?_⟩⟩)⟩
          · rw [upd_ne (ne_of_none h4D ht)]
            exact h4D
          · intro b o' hb e
            rw [upd_ne hb, upd_ne (ne_of_none (kp4 b o' hb e) ht)]
            exact kp4 b o' hb e
          · have tD : t ≠ D2 := fun z => by rw [z, h4D] at ht; cases ht
            have ts : TupS H4' (upd (upd H4' t (.tup [.ref a, .int (getI kvs [.inr kk, o])])) D2 (.lst (ps ++ [.ref t]))) := (TupS.of (same_new ht)).trans (TupS.put (o := .lst ps) (by
              rw [upd_ne (ne_of_none h4D ht)]
              exact h4D) (by intro xs z; cases z))
            rw [List.take_add_one, hu1]
            simp only [Option.toList_some, List.map_append, List.map_cons, List.map_nil]
            refine eachs_snoc ⟨t, a, rfl, ?_, ts _ _ ha4⟩ (eachs_imp (fun _ _ => partT_s ts) hdp)
            rw [upd_ne tD, upd_same]
        · rintro H4 ⟨kp4, ps, h4D, hps, hdp⟩
          have tl2 : ((keysN kvs).mergeSort le2).take zs.length = (keysN kvs).mergeSort le2 := by rw [lz]; exact List.take_length
          rw [tl2] at hdp
          refine ⟨D2, ps, rfl, .inl ⟨SqL.of h4D, fun l' hl4 => ⟨(by show 2 ≤ sizeLine; decide), fun r hr5 => ?_⟩⟩⟩
          have s4 : Same H3 H4 := fun b o e => kp4 b o (ne_of_none e hD2) e
          have s5 := same_new (o := .tup ps) hl4
          have s6 := same_new (o := .tup [.int n, .ref l']) hr5
          refine q _ _ (((((sH.trans sm).trans sm3).trans s4).trans s5).trans s6) ?_
          have el : (upd (upd H4 l' (.tup ps)) r (.tup [.int n, .ref l'])) l' = some (.tup ps) := s6 _ _ upd_same
          exact ⟨r, l', ps, rfl, upd_same, el, eachs_imp (fun _ _ => partT_s (TupS.of (s5.trans s6))) hdp⟩
end
end DR

namespace DR
open PySem PySem.Spec PyProof.Rows L2
/-! ### dict comprehensions of two sources, their keys tuples -/
abbrev DC (ke ve t0 i0 t1 i1 : Expr) (c0 c1 : List Expr) (sc : Scope) (po : Pos) : Expr := .DictComp ke ve [⟨t0, i0, c0, 0⟩, ⟨t1, i1, c1, 0⟩] sc po
theorem turn_a (ke ve t0 i0 t1 i1 : Expr) (c0 c1 : List Expr) (sc : Scope) (po : Pos) (ai : Value) (D : Addr) (en : Env) :
    compTurn (DC ke ve t0 i0 t1 i1 c0 c1 sc po) 0 ai (.ref D) en = (do
      standAt i0.pos
      match ← pyNext ai with
      | none => pure (.done .next)
      | some got =>
        letOwnedTupleGo t0 ai got
        assign t0 en got
        let mut yes := true
        for cond in c0 do
          if yes then yes ← isTrue cond en (eval cond en)
        if yes then
          let src ← eval i1 en
          standAt i1.pos
          let src ← foldedSetIterable i1 en src
          let _ ← runOwn (.compStart (DC ke ve t0 i0 t1 i1 c0 c1 sc po) 1 (← holding [src] (pyIter src)) (.ref D) en) en
        again (.compLoop (DC ke ve t0 i0 t1 i1 c0 c1 sc po) 0 ai (.ref D) en)) := by rfl
theorem turn_b (ke ve t0 i0 t1 i1 : Expr) (c0 c1 : List Expr) (sc : Scope) (po : Pos) (bi : Value) (D : Addr) (en : Env) :
    compTurn (DC ke ve t0 i0 t1 i1 c0 c1 sc po) 1 bi (.ref D) en = (do
      standAt i1.pos
      match ← pyNext bi with
      | none => pure (.done .next)
      | some got =>
        letOwnedTupleGo t1 bi got
        assign t1 en got
        let mut yes := true
        for cond in c1 do
          if yes then yes ← isTrue cond en (eval cond en)
        if yes then
          (do
            let ky ← eval ke en
            let vl ← holding [ky] (eval ve en)
            standAt { ke.pos with endLine := ve.pos.endLine, endCol := ve.pos.endCol }
            holding [ky, vl] (dictSet D ky vl))
        again (.compLoop (DC ke ve t0 i0 t1 i1 c0 c1 sc po) 1 bi (.ref D) en)) := by rfl
section
variable {prog : Program} {w : World} {A : Around} {R : Result → Shared → Prop} {s : Shared} {ke ve t0 i0 t1 i1 : Expr} {c0 c1 : List Expr} {sc : Scope} {po : Pos} {ai : Value} {D : Addr} {en : Env}
abbrev Nt (prog : Program) (w : World) (A : Around) (en : Env) (R : Result → Shared → Prop) : Value → Shared → Prop := notedBy (model prog w) A en fun e s' => R (.error e) s'
abbrev Back (n : Nat) (J : Nat → Shared → Prop) (s' : Shared) : Prop := ∃ m, m < n ∧ J m s'
theorem loop_a (fold : ∀ x, foldedSetIterable i1 en x = pure x) (J : Nat → Shared → Prop)
    (turn : ∀ n s, J n s → wpAny (model prog w) A (pyNext ai) (fun r sa => match r with
      | none => R (.ok .next) sa
      | some got => wpAny (model prog w) A (letOwnedTupleGo t0 ai got) (fun _ sb => wpAny (model prog w) A (assign t0 en got) (fun _ sd => wpAny (model prog w) A (forIn c0 true fun c r => if r = true then do let ok ← isTrue c en (eval c en); pure (ForInStep.yield ok) else pure (ForInStep.yield r)) (fun yes se =>
          if yes = true then wpAny (model prog w) A (eval i1 en) (fun src sf => wpAny (model prog w) A (pyIter src) (fun bi sg => codeAny (model prog w) A (.compStart (DC ke ve t0 i0 t1 i1 c0 c1 sc po) 1 bi (.ref D) en) (fun r s' => match r with
            | .ok _ => Back n J s'
            | .error _ => False) sg) (Nt prog w A en R) sf) (Nt prog w A en R) se
          else Back n J se) (Nt prog w A en R) sd) (Nt prog w A en R) sb) (Nt prog w A en R) sa) (Nt prog w A en R) s)
    (n : Nat) (h : J n s) : codeAny (model prog w) A (.compLoop (DC ke ve t0 i0 t1 i1 c0 c1 sc po) 0 ai (.ref D) en) R s := by
  refine codeAny_loop rfl J (fun n sx hJ => ?_) n h
  show wpAny _ A ((compTurn (DC ke ve t0 i0 t1 i1 c0 c1 sc po) 0 ai (.ref D) en).onRaise (fun x => do noteFrame x en; theTreesLotGoes x)) _ _ sx
  refine wpAny_noted ?_
  rw [turn_a]
  refine wpAny_bind (wpAny_standAt (wpAny_bind (wpAny_mono (turn n sx hJ) (fun r sa ha => ?_) fun _ _ z => z)))
  cases r with
  | none => exact wpAny_pure ha
  | some got =>
    refine wpAny_bind (wpAny_mono ha (fun _ sb hb => ?_) fun _ _ z => z)
    refine wpAny_bind (wpAny_mono hb (fun _ sd hd => wpAny_bind (wpAny_mono hd (fun yes se he => ?_) fun _ _ z => z)) fun _ _ z => z)
    cases yes with
    | false => exact wpAny_pure ⟨rfl, he⟩
    | true =>
      refine wpAny_bind (wpAny_mono he (fun src sf hf => ?_) fun _ _ z => z)
      refine wpAny_bind (wpAny_standAt (wpAny_bind (wpAny_of_eq (fold src) (wpAny_bind (wpAny_holding (wpAny_mono hf (fun bi sg hg => ?_) fun _ _ z => z))))))
      refine wpAny_bind (wpAny_runOwn ?_)
      rw [Around.mark_none]
      refine codeAny_mono hg fun r s' hr => ?_
      cases r with
      | error e => exact hr.elim
      | ok fl =>
        first
          | exact wpAny_pure (And.intro rfl hr)
          | exact wpAny_bind (wpAny_pure (wpAny_pure (And.intro rfl hr)))
theorem loop_b (J : Nat → Shared → Prop)
    (turn : ∀ n s, J n s → wpAny (model prog w) A (pyNext ai) (fun r sa => match r with
      | none => R (.ok .next) sa
      | some got => wpAny (model prog w) A (letOwnedTupleGo t1 ai got) (fun _ sb => wpAny (model prog w) A (assign t1 en got) (fun _ sd => wpAny (model prog w) A (forIn c1 true fun c r => if r = true then do let ok ← isTrue c en (eval c en); pure (ForInStep.yield ok) else pure (ForInStep.yield r)) (fun yes se =>
          if yes = true then wpAny (model prog w) A (eval ke en) (fun ky sf => wpAny (model prog w) A (eval ve en) (fun vl sg => wpAny (model prog w) A (dictSet D ky vl) (fun _ sh => Back n J sh) (Nt prog w A en R) sg) (Nt prog w A en R) sf) (Nt prog w A en R) se
          else Back n J se) (Nt prog w A en R) sd) (Nt prog w A en R) sb) (Nt prog w A en R) sa) (Nt prog w A en R) s)
    (n : Nat) (h : J n s) : codeAny (model prog w) A (.compLoop (DC ke ve t0 i0 t1 i1 c0 c1 sc po) 1 ai (.ref D) en) R s := by
  refine codeAny_loop rfl J (fun n sx hJ => ?_) n h
  show wpAny _ A ((compTurn (DC ke ve t0 i0 t1 i1 c0 c1 sc po) 1 ai (.ref D) en).onRaise (fun x => do noteFrame x en; theTreesLotGoes x)) _ _ sx
  refine wpAny_noted ?_
  rw [turn_b]
  refine wpAny_bind (wpAny_standAt (wpAny_bind (wpAny_mono (turn n sx hJ) (fun r sa ha => ?_) fun _ _ z => z)))
  cases r with
  | none => exact wpAny_pure ha
  | some got =>
    refine wpAny_bind (wpAny_mono ha (fun _ sb hb => ?_) fun _ _ z => z)
    refine wpAny_bind (wpAny_mono hb (fun _ sd hd => wpAny_bind (wpAny_mono hd (fun yes se he => ?_) fun _ _ z => z)) fun _ _ z => z)
    cases yes with
    | false => exact wpAny_pure ⟨rfl, he⟩
    | true =>
      refine wpAny_bind (wpAny_bind (wpAny_mono he (fun ky sf hf => ?_) fun _ _ z => z))
      refine wpAny_bind (wpAny_holding (wpAny_mono hf (fun vl sg hg => ?_) fun _ _ z => z))
      exact wpAny_bind (wpAny_standAt (wpAny_holding (wpAny_mono hg (fun _ sh hh => wpAny_pure ⟨rfl, hh⟩) fun _ _ z => z)))
theorem start_b (here : codeAny (model prog w) A (.compLoop (DC ke ve t0 i0 t1 i1 c0 c1 sc po) 1 ai (.ref D) en) R s)
    (itr : wpAny (model prog w) A (pyIter ai) (fun bi s' => codeAny (model prog w) A (.compLoop (DC ke ve t0 i0 t1 i1 c0 c1 sc po) 1 bi (.ref D) en) R s') (Nt prog w A en R) s) :
    codeAny (model prog w) A (.compStart (DC ke ve t0 i0 t1 i1 c0 c1 sc po) 1 ai (.ref D) en) R s := by
  refine codeAny_of_tree ?_
  show wpAny _ _ ((compStart (DC ke ve t0 i0 t1 i1 c0 c1 sc po) 1 ai (.ref D) en).onRaise (fun x => do noteFrame x en; standAt theWindowsPlace)) _ _ s
  refine wpAny_notedAt ?_
  unfold compStart
  show wpAny _ _ (ask >>= _) _ _ s
  refine wpAny_bind (wpAny_askSetting (wpAny_ite ?_))
  split
  · first
      | exact wpAny_pure ⟨rfl, here⟩
      | exact wpAny_bind (wpAny_pure (wpAny_pure ⟨rfl, here⟩))
  · first
      | exact wpAny_bind (wpAny_rule (wpAny_bind (wpAny_standAt (wpAny_bind (wpAny_mono itr (fun bi s' hb => wpAny_pure ⟨rfl, hb⟩) fun _ _ z => z)))))
      | (refine wpAny_bind (wpAny_rule ?_); show wpAny _ _ (standAt i1.pos >>= _) _ _ s; exact wpAny_bind (wpAny_standAt (wpAny_bind (wpAny_mono itr (fun bi s' hb => wpAny_pure ⟨rfl, hb⟩) fun _ _ z => z))))
end
/-- one turn of the outer loop -/
def turnT2 (g : TG) (tt : TT) (wi1 : TI) (g1 : TG) (tt1 : TT) (tk tv : TE) (σ0 : L2.St) (vs vs1 : List Nat) (D : Addr) (Nx : Hp → Prop) (x : V) (Ha : Hp) : Prop :=
  g x (wipe σ0 vs) Ha fun σ1 Hb => wipe σ1 vs = wipe σ0 vs ∧ tt σ1 Hb fun b Hc => if b = true then wi1 σ1 Hc fun J1 Hd => ∃ W1 : Nat → Nat → Hp → Prop, (∃ n, W1 0 n Hd) ∧
    ∀ j k He, W1 j k He → (J1.stop j He ∧ Nx He) ∨ (J1.go j He ∧ ∃ Nx1 : Hp → Prop, (∀ Hf, Nx1 Hf → ∃ k', k' < k ∧ W1 (j + 1) k' Hf) ∧ ∀ y Hf, J1.yld j He y Hf → turnT g1 tt1 tk tv σ1 vs1 D Nx1 y Hf) else Nx Hc
def tDt2 (wi : TI) (g : TG) (tt : TT) (wi1 : TI) (g1 : TG) (tt1 : TT) (tk tv : TE) (vs vs1 : List Nat) : TE := fun σ H Q => wi σ H fun J Ha => ∀ D, Ha D = none → ∃ W : Nat → Nat → Hp → Prop, (∃ n, W 0 n (upd Ha D (.dT []))) ∧
  ∀ j n Hb, W j n Hb → (J.stop j Hb ∧ Q (.ref D) Hb) ∨ (J.go j Hb ∧ ∃ Nx : Hp → Prop, (∀ Hc, Nx Hc → ∃ n', n' < n ∧ W (j + 1) n' Hc) ∧ ∀ x Hc, J.yld j Hb x Hc → turnT2 g tt wi1 g1 tt1 tk tv σ vs vs1 D Nx x Hc)
section
variable {X : Cx}
theorem run_dt2 {pn : List (Addr × Obj)} {s : Shared} {σ : L2.St} {H : Hp} {Q : VK} {ke ve t0 i0 t1 i1 : Expr} {c0 c1 : List Expr} {sc : Scope} {own : List (Str × Nat)} {vs1 : List Nat} {po po' : Pos} {wi wi1 : TI} {g g1 : TG} {tt tt1 : TT} {tk tv : TE} {use : Option (Value → Sem Unit)} {Fi : Value → Shared → Prop}
    (hu : X.A.units + 1 < cLine) (calm : X.calm = true) (nod : X.N.Nodup) (I : Inv X pn σ H s) (walks : PI X t0 i0 wi) (blk : BlkOk X.N X.env.scope sc own) (inn : ∀ i ∈ vs1, i ∈ own.map (·.2))
    (rg : ∀ (s : Shared) (H : Hp) (C : Addr) (cl : List (Str × Addr)) (fp : List Addr), PG (X.blk s H sc (compEnvC sc cl C X.env) fp) t0 g) (rt : ∀ (s : Shared) (H : Hp) (C : Addr) (cl : List (Str × Addr)) (fp : List Addr), PTs (X.blk s H sc (compEnvC sc cl C X.env) fp) c0 tt)
    (ri1 : ∀ (s : Shared) (H : Hp) (C : Addr) (cl : List (Str × Addr)) (fp : List Addr), PI (X.blk s H sc (compEnvC sc cl C X.env) fp) t1 i1 wi1)
    (rg1 : ∀ (s : Shared) (H : Hp) (C : Addr) (cl : List (Str × Addr)) (fp : List Addr), PG (X.blk s H sc (compEnvC sc cl C X.env) fp) t1 g1) (rt1 : ∀ (s : Shared) (H : Hp) (C : Addr) (cl : List (Str × Addr)) (fp : List Addr), PTs (X.blk s H sc (compEnvC sc cl C X.env) fp) c1 tt1)
    (rk : ∀ (s : Shared) (H : Hp) (C : Addr) (cl : List (Str × Addr)) (fp : List Addr), PE (X.blk s H sc (compEnvC sc cl C X.env) fp) ke tk) (rv : ∀ (s : Shared) (H : Hp) (C : Addr) (cl : List (Str × Addr)) (fp : List Addr), PE (X.blk s H sc (compEnvC sc cl C X.env) fp) ve tv)
    (fold : ∀ x, foldedSetIterable i0 X.env x = pure x) (fold1 : ∀ en x, foldedSetIterable i1 en x = pure x) (asks : tDt2 wi g tt wi1 g1 tt1 tk tv (own.map (·.2)) vs1 σ H Q)
    (last : ∀ D C s' m H', Inv X pn σ H' s' → Q (.ref D) H' → s'.heap.Ns C m → FpOk X pn H' C → compPost (model X.prog X.w) X.A X.xe use Fi (.ref D) C (.ok .next) s') :
    wpAny (model X.prog X.w) X.A (comprehension (DC ke ve t0 i0 t1 i1 c0 c1 sc po) sc X.env po' newDict false (eval i0 X.env) use) Fi X.xe s := by
  have freeOk : ∀ y ∈ sc.names, y.2 = .free → ∃ c, X.env.cells.lookup y.1 = some c := fun y hy e => (blk.free y hy e).elim (fun k => I.ok.has _ (.inl k)) fun k => I.ok.has _ (.inr k)
  refine wpAny_comprehension_free (use := use) rfl fold (closure_ok freeOk) blk.kind (fun y hy e => by rw [blk.uniq y hy, e]) (thn (walks.run pn s σ H _ I asks) fun _ sa ha => thn ha fun _ sb hb => ?_)
  obtain ⟨it, fp, tn, J, Hb, rfl, Ib, T, stb, fpb, q⟩ := hb
  refine wpAny_newObj_type (newEnv_comp ?_)
  have freeD : Hb sb.heap.objs.size = none := Ib.hok.fresh (Nat.le_refl _)
  obtain ⟨W, ⟨n0, w0⟩, turns⟩ := q _ freeD
  have Ic : Inv X pn σ (upd Hb sb.heap.objs.size (.dT [])) { sb with heap := sb.heap.push { cls := .type "dict", data := .dict #[] } } := Ib.laid (t' := sb.toks) (fun _ _ e => Heap.get?_push_of_some _ e) (Nat.le_refl _) (dt_empty sb.heap Ib.big)
  generalize eD : sb.heap.objs.size = D at freeD w0 turns Ic ⊢
  generalize ec : ({ sb with heap := sb.heap.push { cls := .type "dict", data := .dict #[] } } : Shared) = c at Ic
  have hc : c.heap = sb.heap.push { cls := .type "dict", data := .dict #[] } := by rw [← ec]
  have below : ∀ b ∈ fp, b < D := fun b hb => by
    obtain ⟨o, e, _⟩ := T.obj _ _ stb b hb
    rw [← eD]
    exact Heap.lt_size e
  generalize eH : upd Hb D (.dT []) = Hc at Ic w0
  have fpc : ∀ b ∈ fp, FpOk X pn Hc b ∧ b < c.heap.objs.size := fun b hb => by
    have lt := below b hb
    refine ⟨⟨?_, (fpb b hb).2⟩, ?_⟩
    · rw [← eH, upd_ne (Nat.ne_of_lt lt)]
      exact (fpb b hb).1
    · rw [hc, Heap.size_push, eD]
      exact Nat.lt_succ_of_lt lt
  have stc : tn 0 c.heap := T.keep _ _ _ stb fun b _ o e => by
    rw [hc]
    exact Heap.get?_push_of_some _ e
  have Id := block_start Ic blk nod fpc
  generalize eE : compEnvC sc (cellsFrom (c.heap.objs.size + 1) sc.names (cloFrom X.env.cells sc.names [])) c.heap.objs.size X.env = en at Id
  have pg : PG (X.blk c Hc sc en fp) t0 g := eE ▸ rg c Hc _ _ fp
  have pt : PTs (X.blk c Hc sc en fp) c0 tt := eE ▸ rt c Hc _ _ fp
  have pi1 : PI (X.blk c Hc sc en fp) t1 i1 wi1 := eE ▸ ri1 c Hc _ _ fp
  have pg1 : PG (X.blk c Hc sc en fp) t1 g1 := eE ▸ rg1 c Hc _ _ fp
  have pt1 : PTs (X.blk c Hc sc en fp) c1 tt1 := eE ▸ rt1 c Hc _ _ fp
  have pk : PE (X.blk c Hc sc en fp) ke tk := eE ▸ rk c Hc _ _ fp
  have pv' : PE (X.blk c Hc sc en fp) ve tv := eE ▸ rv c Hc _ _ fp
  have locs : en.locals = c.heap.objs.size := by rw [← eE]; rfl
  have quiet : ∀ b ∈ fp, Hc b = none := fun b hb => (fpc b hb).1.1
  generalize ed : ({ c with heap := pushCells (c.heap.push { cls := .type "dict", data := .dict #[] }) sc.names } : Shared) = d at Id
  have std : tn 0 d.heap := T.keep _ _ _ stc fun b _ o e => by
    rw [← ed]
    exact pushCells_keeps _ _ _ _ (Heap.get?_push_of_some _ e)
  have fpIn : ∀ {σ' : L2.St} {H' : Hp} {s' : Shared}, Inv (X.blk c Hc sc en fp) [] σ' H' s' → (∀ b ∈ fp, H' b = none) → ∀ b ∈ fp, FpOk (X.blk c Hc sc en fp) [] H' b := fun I' q b hb =>
    ⟨q b hb, (I'.ok.exf b hb).1, I'.ok.exfs b hb, .inl hb, fun x y e => (I'.ok.exf b hb).2 x y e, fun p hp => absurd (show p ∈ ([] : List (Addr × Obj)) ++ [] from hp) (by simp)⟩
  have goes : codeAny (model X.prog X.w) X.A (.compLoop (DC ke ve t0 i0 t1 i1 c0 c1 sc po) 0 (.ref it) (.ref D) en) (compPost (model X.prog X.w) X.A X.xe use Fi (.ref D) c.heap.objs.size) d := by
    refine loop_a (fold1 en) (fun n s' => ∃ j H', Inv (X.blk c Hc sc en fp) [] (wipe σ (own.map (·.2))) H' s' ∧ tn j s'.heap ∧ (∀ b ∈ fp, H' b = none) ∧ W j n H') (fun n s5 hs5 => ?_) n0 ⟨0, Hc, Id, std, quiet, w0⟩
    obtain ⟨j, H5, I5, st5, n5, w5⟩ := hs5
    rcases turns j n H5 w5 with ⟨over, qq⟩ | ⟨on, Nx, next, step⟩
    · refine thnF (T.done (X.blk c Hc sc en fp) rfl rfl rfl calm j [] s5 _ H5 (fun _ _ => False) I5 (fpIn I5 n5) st5 over) fun r s6 h6 => ?_
      obtain ⟨rfl, I6⟩ := h6
      have outer : Inv X pn σ H5 s6 := Ic.call' (ch := fp) I6.os I6.base I6.hok I6.bare fun b hb => by
        obtain ⟨⟨k0, k1, k2, k3, k4, k5⟩, _⟩ := fpc b hb
        exact ⟨k3, k1, k4, k5⟩
      have nL : H5 c.heap.objs.size = none := by
        rw [← locs]
        exact I6.free
      obtain ⟨m, hm, _⟩ := I6.loc
      have hm' : s6.heap.Ns c.heap.objs.size m := by
        rw [← locs]
        exact hm
      exact last D _ s6 m H5 outer qq hm' (Ic.fpOk (Nat.le_refl _) nL)
    · refine thnF (T.item (X.blk c Hc sc en fp) rfl rfl rfl calm j [] s5 _ H5 (fun _ _ => False) I5 (fpIn I5 n5) st5 on) fun r s6 h6 => ?_
      obtain ⟨u, rfl, h6⟩ := h6
      refine thnF h6 fun _ s7 h7 => ?_
      obtain ⟨x, H7, I7, r7, y7, st7, n7⟩ := h7
      refine thnF (pg.run _ s7 _ H7 x u _ (I7.pinned (fpIn I7 n7) (T.obj _ _ st7)) r7 (step x H7 y7)) fun _ s8 h8 => ?_
      obtain ⟨σ8, H8, I8, wip, q8⟩ := h8
      have over : ∀ {σ9 : L2.St} {s' : Shared} {H' : Hp}, Inv (X.blk c Hc sc en fp) ([] ++ pinsAt fp s7.heap) σ9 H' s' → (wipe σ (own.map (·.2))).length = σ9.length → (∀ (i : Nat) v, (wipe σ (own.map (·.2)))[i]? = some (some v) → σ9[i]? = some (some v)) → Nx H' →
          Back n (fun n s' => ∃ j H', Inv (X.blk c Hc sc en fp) [] (wipe σ (own.map (·.2))) H' s' ∧ tn j s'.heap ∧ (∀ b ∈ fp, H' b = none) ∧ W j n H') s' := by
        intro σ9 s' H' I' hl hk nx
        obtain ⟨m', lt, w'⟩ := next H' nx
        have pinned : ∀ b ∈ fp, ∀ o, s7.heap.get? b = some o → s'.heap.get? b = some o ∧ H' b = none := fun b hb o e => by
          have z := I'.pin (b, o) (List.mem_append_right _ (List.mem_append_right _ (mem_pinsAt hb e)))
          exact ⟨z.1, z.2.1⟩
        refine ⟨m', lt, j + 1, H', (I'.unpinned (pins := [])).weak hl hk, T.keep _ _ _ st7 fun b hb o e => (pinned b hb o e).1, fun b hb => ?_, w'⟩
        obtain ⟨o, e, _⟩ := T.obj _ _ st7 b hb
        exact (pinned b hb o e).2
      have len8 : (wipe σ (own.map (·.2))).length = σ8.length := by rw [← wip, wipe_length]
      have kno8 : ∀ (i : Nat) v, (wipe σ (own.map (·.2)))[i]? = some (some v) → σ8[i]? = some (some v) := fun i v e => by
        rw [← wip] at e
        exact (wipe_some e).1
      have kno9 : ∀ (i : Nat) v, (wipe σ (own.map (·.2)))[i]? = some (some v) → (wipe σ8 vs1)[i]? = some (some v) := fun i v e => by
        rw [← wip] at e
        obtain ⟨e1, e2⟩ := wipe_some e
        rw [wipe_out fun z => e2 (inn i z)]
        exact e1
      refine thnF (pt.run _ s8 σ8 H8 _ I8 q8) fun b s9 h9 => ?_
      obtain ⟨H9, I9, q9⟩ := h9
      cases b with
      | false =>
        rw [if_neg Bool.false_ne_true] at q9 ⊢
        exact over I9 len8 kno8 q9
      | true =>
        rw [if_pos rfl] at q9 ⊢
        refine thnF (pi1.run _ s9 σ8 H9 _ I9 q9) fun _ s10 h10 => thnF h10 fun _ s11 h11 => ?_
        obtain ⟨it1, fp1, tn1, J1, H11, rfl, I11, T1, st11, f11, W1, ⟨k1, w1⟩, turns1⟩ := h11
        have fpIn1 : ∀ {H' : Hp}, (∀ b ∈ fp1, H' b = none) → ∀ b ∈ fp1, FpOk (X.blk c Hc sc en fp) ([] ++ pinsAt fp s7.heap) H' b := fun hn b hb => ⟨hn b hb, (f11 b hb).2⟩
        have inner : codeAny (model X.prog X.w) X.A (.compLoop (DC ke ve t0 i0 t1 i1 c0 c1 sc po) 1 (.ref it1) (.ref D) en)
            (fun r s' => match r with
              | .ok _ => Back n (fun n s' => ∃ j H', Inv (X.blk c Hc sc en fp) [] (wipe σ (own.map (·.2))) H' s' ∧ tn j s'.heap ∧ (∀ b ∈ fp, H' b = none) ∧ W j n H') s'
              | .error _ => False) s11 := by
          refine loop_b (fun k s' => ∃ i H', Inv (X.blk c Hc sc en fp) ([] ++ pinsAt fp s7.heap) (wipe σ8 vs1) H' s' ∧ tn1 i s'.heap ∧ (∀ b ∈ fp1, H' b = none) ∧ W1 i k H') (fun k s12 hs12 => ?_) k1 ⟨0, H11, I11.weak (wipe_length _ _) (fun i v e => (wipe_some e).1), st11, fun b hb => (f11 b hb).1, w1⟩
          obtain ⟨i, H12, I12, st12, n12, w12⟩ := hs12
          rcases turns1 i k H12 w12 with ⟨over1, nx1⟩ | ⟨on1, Nx1, next1, step1⟩
          · refine thnF (T1.done (X.blk c Hc sc en fp) rfl rfl rfl calm i _ s12 (wipe σ8 vs1) H12 (fun _ _ => False) I12 (fpIn1 n12) st12 over1) fun r s13 h13 => ?_
            obtain ⟨rfl, I13⟩ := h13
            exact over I13 (len8.trans (wipe_length σ8 vs1).symm) kno9 nx1
          · refine thnF (T1.item (X.blk c Hc sc en fp) rfl rfl rfl calm i _ s12 (wipe σ8 vs1) H12 (fun _ _ => False) I12 (fpIn1 n12) st12 on1) fun r s13 h13 => ?_
            obtain ⟨u1, rfl, h13⟩ := h13
            refine thnF h13 fun _ s14 h14 => ?_
            obtain ⟨x1, H14, I14, r14, y14, st14, n14⟩ := h14
            refine thnF (pg1.run _ s14 (wipe σ8 vs1) H14 x1 u1 _ (I14.pinned (fpIn1 n14) (T1.obj _ _ st14)) r14 (step1 x1 H14 y14)) fun _ s15 h15 => ?_
            obtain ⟨σ15, H15, I15, wip1, q15⟩ := h15
            have over2 : ∀ {s' : Shared} {H' : Hp}, Inv (X.blk c Hc sc en fp) (([] ++ pinsAt fp s7.heap) ++ pinsAt fp1 s14.heap) σ15 H' s' → Nx1 H' →
                Back k (fun k s' => ∃ i H', Inv (X.blk c Hc sc en fp) ([] ++ pinsAt fp s7.heap) (wipe σ8 vs1) H' s' ∧ tn1 i s'.heap ∧ (∀ b ∈ fp1, H' b = none) ∧ W1 i k H') s' := by
              intro s' H' I' nx
              obtain ⟨m', lt, w'⟩ := next1 H' nx
              have pinned : ∀ b ∈ fp1, ∀ o, s14.heap.get? b = some o → s'.heap.get? b = some o ∧ H' b = none := fun b hb o e => by
                have z := I'.pin (b, o) (List.mem_append_right _ (List.mem_append_right _ (mem_pinsAt hb e)))
                exact ⟨z.1, z.2.1⟩
              refine ⟨m', lt, i + 1, H', I'.unpinned.weak ?_ ?_, T1.keep _ _ _ st14 fun b hb o e => (pinned b hb o e).1, fun b hb => ?_, w'⟩
              · rw [← wip1, wipe_length]
              · intro l v e
                rw [← wip1] at e
                exact (wipe_some e).1
              · obtain ⟨o, e, _⟩ := T1.obj _ _ st14 b hb
                exact (pinned b hb o e).2
            refine thnF (pt1.run _ s15 σ15 H15 _ I15 q15) fun b s16 h16 => ?_
            obtain ⟨H16, I16, q16⟩ := h16
            cases b with
            | false =>
              rw [if_neg Bool.false_ne_true] at q16 ⊢
              exact over2 I16 q16
            | true =>
              rw [if_pos rfl] at q16 ⊢
              refine thnF (pk.run _ s16 σ15 H16 _ I16 q16) fun _ s17 h17 => ?_
              obtain ⟨yk, H17, I17, r17, q17⟩ := h17
              refine thnF (pv'.run _ s17 σ15 H17 _ I17 q17) fun _ s18 h18 => ?_
              obtain ⟨yv, H18, I18, r18, Hf, put, nx⟩ := h18
              exact run_putT (X := X.blk c Hc sc en fp) hu I18 put r17 r18 fun s19 I19 => over2 I19 nx
        exact start_b inner (T1.self X.A 0 _ _ _ st11 inner)
  subst eE
  exact codeAny_compStart_dict goes (T.self X.A 0 _ _ _ std goes)
theorem pe_dt2 {ke ve t0 i0 t1 i1 : Expr} {c0 c1 : List Expr} {sc : Scope} {own : List (Str × Nat)} {vs1 : List Nat} {po : Pos} {wi wi1 : TI} {g g1 : TG} {tt tt1 : TT} {tk tv : TE} (hu : X.A.units + 1 < cLine) (calm : X.calm = true) (nod : X.N.Nodup) (walks : PI X t0 i0 wi) (blk : BlkOk X.N X.env.scope sc own) (inn : ∀ i ∈ vs1, i ∈ own.map (·.2))
    (rg : ∀ (s : Shared) (H : Hp) (C : Addr) (cl : List (Str × Addr)) (fp : List Addr), PG (X.blk s H sc (compEnvC sc cl C X.env) fp) t0 g) (rt : ∀ (s : Shared) (H : Hp) (C : Addr) (cl : List (Str × Addr)) (fp : List Addr), PTs (X.blk s H sc (compEnvC sc cl C X.env) fp) c0 tt)
    (ri1 : ∀ (s : Shared) (H : Hp) (C : Addr) (cl : List (Str × Addr)) (fp : List Addr), PI (X.blk s H sc (compEnvC sc cl C X.env) fp) t1 i1 wi1)
    (rg1 : ∀ (s : Shared) (H : Hp) (C : Addr) (cl : List (Str × Addr)) (fp : List Addr), PG (X.blk s H sc (compEnvC sc cl C X.env) fp) t1 g1) (rt1 : ∀ (s : Shared) (H : Hp) (C : Addr) (cl : List (Str × Addr)) (fp : List Addr), PTs (X.blk s H sc (compEnvC sc cl C X.env) fp) c1 tt1)
    (rk : ∀ (s : Shared) (H : Hp) (C : Addr) (cl : List (Str × Addr)) (fp : List Addr), PE (X.blk s H sc (compEnvC sc cl C X.env) fp) ke tk) (rv : ∀ (s : Shared) (H : Hp) (C : Addr) (cl : List (Str × Addr)) (fp : List Addr), PE (X.blk s H sc (compEnvC sc cl C X.env) fp) ve tv)
    (fold : ∀ x, foldedSetIterable i0 X.env x = pure x := by intro _; rfl) (fold1 : ∀ en x, foldedSetIterable i1 en x = pure x := by intro _ _; rfl) : PE X (.DictComp ke ve [⟨t0, i0, c0, 0⟩, ⟨t1, i1, c1, 0⟩] sc po) (tDt2 wi g tt wi1 g1 tt1 tk tv (own.map (·.2)) vs1) := by
  constructor
  intro pn s σ H Q I asks
  rw [arm_eval_DictComp]
  refine run_dt2 hu calm nod I walks blk inn rg rt ri1 rg1 rt1 rk rv fold fold1 asks fun D C s' m H' I' q hm f => ⟨m, hm, fun g2 sb => ?_⟩
  obtain ⟨k0, k1, k2, k3, k4, k5⟩ := f
  exact ⟨.ref D, H', I'.turned (t' := s'.toks) (fun b o hb e => (sb.2 b hb).trans e) k0 k1 k3 k4 k5, rfl, q⟩
end
end DR


namespace DR
open PySem PySem.Spec PyProof.Rows L2
/-! ### enumerate over a tuple -/
open AutoSeq1 (wpAny_loadPart') in
theorem meets_enumT (tt : Addr) (its : Array Value) (ot : Obj) (co : ot.cls = .type "tuple") (n : Nat) (dd : ot.data = .seq its n) :
    Meets (Builtin.«enumerate.__new__» ⟨[.type "enumerate", .ref tt], []⟩) (fun _ R t => t.heap.get? tt = some ot ∧
      R (.ok (.ret (.ref (t.heap.push { cls := .type "tuple_iterator", data := .fields #[.ref tt, .int 0 0] }).objs.size)))
        { t with heap := (t.heap.push { cls := .type "tuple_iterator", data := .fields #[.ref tt, .int 0 0] }).push { cls := .type "enumerate", data := .fields #[.none, .bool false, .ref t.heap.objs.size, rawInt 0, .none, .none] } }) :=
  .of_wp fun prog w A R t goal => by
    obtain ⟨hp, gg, dp, tk, os⟩ := t
    obtain ⟨get, goal⟩ := goal
    obtain ⟨c0, d0, dt0, s0⟩ := ot
    dsimp only at co dd
    subst co
    subst dd
    have below := sub_enumerate
    have isT : Heap.IsTuple (Shared.heap ⟨hp, gg, dp, tk, os⟩) tt its := ⟨_, get, rfl, n, rfl⟩
    wp_walk using wpAny_loadPart' get
    refine wpAny_stack_any fun st => wpAny_pure ?_
    split
    · rename_i c _ _ _ _ _
      cases (c == Value.type "enumerate") <;>
      · wp_walk using wpAny_loadPart' get, wpAny_pyIter_tuple isT
        exact ⟨_, rfl, goal⟩
    · wp_walk using wpAny_loadPart' get, wpAny_pyIter_tuple isT
      exact ⟨_, rfl, goal⟩
theorem call_enumT {prog : Program} {w : World} {A : Around} {E : Value → Shared → Prop} {t : Shared} {tt : Addr} {its : Array Value} {Q : Value → Shared → Prop} (isT : t.heap.IsTuple tt its)
    (go : ∀ g, IsEnum g (t.heap.objs.size + 1) t.heap.objs.size 0 .none → g.IsTupleIter t.heap.objs.size tt 0 → (∀ b o, t.heap.get? b = some o → g.get? b = some o) → Q (.ref (t.heap.objs.size + 1)) { t with heap := g }) :
    wpAny (model prog w) A (call (.type "enumerate") [.ref tt]) Q E t := by
  obtain ⟨ot, get, co, n, dd⟩ := isT
  refine callType_new F.called_enumerate (by decide) (F.typeCall_enumerate_1 _) (F.newCall_enumerate_1 _) (fun obj => F.args_object_init_2 obj _) F.entry_enumerate_new (meets_enumT tt its ot co n dd) ⟨get, ?_⟩
  let oi : Obj := { cls := .type "tuple_iterator", data := .fields #[.ref tt, .int 0 0] }
  have sz : (t.heap.push oi).objs.size = t.heap.objs.size + 1 := Heap.size_push ..
  have eq2 : (t.heap.push { cls := .type "tuple_iterator", data := .fields #[.ref tt, .int 0 0] }).objs.size = t.heap.objs.size + 1 := sz
  show _ ∧ _
  rw [eq2]
  have top : IsEnum ((t.heap.push oi).push { cls := .type "enumerate", data := .fields #[.none, .bool false, .ref t.heap.objs.size, rawInt 0, .none, .none] }) (t.heap.objs.size + 1) t.heap.objs.size 0 .none := by
    have z := Heap.get?_push_size (t.heap.push oi) (o := { cls := .type "enumerate", data := .fields #[.none, .bool false, .ref t.heap.objs.size, rawInt 0, .none, .none] }) rfl
    rw [sz] at z
    exact z
  refine ⟨⟨_, top, rfl⟩, go _ top ⟨oi, Heap.get?_push_of_some _ (Heap.get?_push_size _ rfl), rfl, rfl⟩ fun b o e => Heap.get?_push_of_some _ (Heap.get?_push_of_some _ e)⟩
/-- the tuple at a, each item in a new pair -/
def Itu (K : PySem.W.Frag) (a : Addr) : It where
  go := fun i H => ∃ (xs : List V) (x : V), SqT K H a xs ∧ xs[i]? = some x
  yld := fun i H v H' => ∃ T x, v = .ref T ∧ H T = none ∧ H' = upd H T (.tup [.int (i : Nat), x]) ∧ ∀ xs, SqT K H a xs → xs[i]? = some x
  stop := fun i H => ∃ xs : List V, SqT K H a xs ∧ xs.length ≤ i
theorem turn_enumT {P : Program} {w : World} {K : PySem.W.Frag} {elts : List Expr} {kk : Nat} {tpos : Pos} (a e it : Addr) (ae : a ≠ e) (ai : a ≠ it) :
    Turn P w K (.Tuple elts kk tpos) (Itu K a) [e, it] e (fun i h => (∃ old, IsEnum h e it ((i : Nat) : Int) old) ∧ h.IsTupleIter it a i ∧ e ≠ it) where
  mem := List.mem_cons_self ..
  obj := by
    intro i h st b hb
    obtain ⟨⟨old, he⟩, ⟨o, ho, hc, hd⟩, _⟩ := st
    rcases List.mem_cons.mp hb with rfl | hb
    · exact ⟨_, he, fun v q => nomatch q⟩
    · obtain rfl := List.mem_singleton.mp hb
      exact ⟨o, ho, fun v q => by rw [hd] at q; cases q⟩
  keep := by
    intro i h h' st k
    obtain ⟨⟨old, he⟩, hi, hne⟩ := st
    exact ⟨⟨old, k e (by simp) _ he⟩, hi.at fun o q => k it (by simp) o q, hne⟩
  item := by
    intro X hP hw hK hc i pins s σ H E I hf st hg
    subst hP hw hK
    obtain ⟨⟨old, he⟩, hit, hne⟩ := st
    obtain ⟨xs, x, hq, hx⟩ := hg
    obtain ⟨its, rv, p, hz⟩ := I.tuple hq
    obtain ⟨u, hu, ru⟩ := rv.get hx
    have elt : e < s.heap.objs.size := Heap.lt_size he
    have ilt : it < s.heap.objs.size := by
      obtain ⟨_, q, _⟩ := hit
      exact Heap.lt_size q
    have DD := Draws.tuple (prog := X.prog) (w := X.w) (A := X.A.in1) (I.ok.hd hc) it a ai its.toArray
    have hlen : i < its.toArray.size := by
      have : its[i]? = some u := hu
      have := (List.getElem?_eq_some_iff.mp this).1
      simpa using this
    have ef : e ∉ ([it, a] : List Addr) := by simp [hne, ae.symm]
    refine wpAny_pyNext_enum_itemD DD he ⟨hit, (show s.heap.IsTuple a its.toArray from p)⟩ hlen hne ef fun y h' tk hy ho hs' hT hsz hk => ?_
    obtain ⟨hit', _⟩ := hs'
    obtain rfl : y = u := by
      have q : its.toArray[i]? = some y := hy
      rw [List.getElem?_toArray, hu] at q
      exact (Option.some.inj q).symm
    refine ⟨_, rfl, wpAny_letOwnedTupleGo_enum (s := { s with heap := h', toks := tk + 1 }) ho fun h'' he' sb => ?_⟩
    have hT2 : h''.get? s.heap.objs.size = some { cls := .type "tuple", data := .seq #[.int i tk, y] } := (sb.2 _ (Nat.ne_of_gt elt)).trans hT
    have new : ObjOk X.prog X.w (upd H s.heap.objs.size (.tup [.int (i : Nat), x])) h'' s.heap.objs.size (.tup [.int (i : Nat), x]) :=
      ⟨by show 2 ≤ sizeLine; decide, [.int i tk, y], .cons ⟨_, rfl⟩ (.cons ru .nil), ⟨_, hT2, rfl, _, rfl⟩⟩
    have I1 : Inv X pins σ (upd H s.heap.objs.size (.tup [.int (i : Nat), x])) { s with heap := h'', toks := tk + 1 } :=
      I.turnedNew (ch := [e, it]) (fun b ob hb q => (sb.2 b (fun z => hb (by simp [z]))).trans (hk b ob (fun z => hb (by simp [z])) (fun z => hb (by simp [z])) q)) hf (Nat.le_refl _) new
    refine ⟨.ref s.heap.objs.size, _, I1, rfl, ⟨_, x, rfl, I.hok.fresh (Nat.le_refl _), rfl, fun ys hy => by rw [I.tuple_inj hy hq]; exact hx⟩, ⟨⟨y, ?_⟩, hit'.at fun o q => (sb.2 it (Ne.symm hne)).trans q, hne⟩, fun b hb => ?_⟩
    · rw [show ((i + 1 : Nat) : Int) = (i : Int) + 1 by omega]
      exact he'
    · have blt : b < s.heap.objs.size := by
        rcases List.mem_cons.mp hb with rfl | hb
        · exact elt
        · obtain rfl := List.mem_singleton.mp hb
          exact ilt
      rw [upd_ne (Nat.ne_of_lt blt)]
      exact (hf b hb).1
  done := by
    intro X hP hw hK hc i pins s σ H E I hf st hg
    subst hP hw hK
    obtain ⟨⟨old, he⟩, hit, hne⟩ := st
    obtain ⟨xs, hq, hx⟩ := hg
    obtain ⟨its, rv, p, hz⟩ := I.tuple hq
    obtain ⟨f0, f1, f2, f3, f4, f5⟩ := hf it (by simp)
    have hl := rv.length
    have T : s.heap.IsTuple a its.toArray := p
    have hn : wpAny (model X.prog X.w) X.A (pyNext (.ref e)) (fun r s1 => r = none ∧ Inv X pins σ H s1) E s := by
      have hT : s.TypeIs (.ref e) "enumerate" := ⟨_, he, rfl⟩
      unfold pyNext
      refine wpAny_bind (wpAny_attempt (wpAny_callSpecial?_slot (name := Str.ofString "__next__") hT F.slot_enumerate_next (wpAny_call_entry F.slot_enumerate_next hT F.entry_enumerate_next ?_ (F.args_enumerate_next_1 _))))
      show wpAny _ _ (field (.ref e) 2 >>= _) _ _ _
      refine wpAny_bind (wpAny_field he rfl (x := .ref it) rfl ?_)
      refine wpAny_bind (wpAny_nextOf_tuple_end (A := X.A.in1) (I.ok.hd hc) hit T (by simp; omega) fun h' x he' hx' => ?_)
      obtain ⟨o, ho, hcl⟩ := hx'
      refine wpAny_bind (wpAny_isInstance (T := "StopIteration") (b := true) ⟨o, ho, hcl⟩ isSubtype_stop ?_)
      exact wpAny_pure ⟨rfl, I.turned (t' := s.toks) (fun b o hb q => he' b o hb q) f0 f1 f3 f4 f5⟩
    exact hn
  self := fun A i s Q E st h => by
    obtain ⟨⟨_, he⟩, _⟩ := st
    exact wpAny_pyIter_enum he h
def iEnumT (K : PySem.W.Frag) (ta : TA) : TI := fun σ H R => ta σ H fun vs H1 => ∃ a xs, vs = [.ref a] ∧ SqT K H1 a xs ∧ R (Itu K a) H1
theorem pi_enumT {X : Cx} {e : Expr} {ta : TA} {p pos tpos : Pos} {elts : List Expr} {kk : Nat} (hg : Gl X "enumerate") (hm : X.mg "enumerate" = none) (ha : PA X [e] ta) (hs : starEach [e] X.env = [(false, eval e X.env)] := by rfl) :
    PI X (.Tuple elts kk tpos) (.Call (.Name "enumerate" p) [e] [] pos) (iEnumT X.K ta) := by
  constructor
  intro pins s σ H R I h
  refine Call_ (ld_blt I hg hm boot_enumerate (PyProof.Rows.callWith_type1 (thn (ha.run pos pins s σ H _ I h) fun us s1 got => ?_) hs rfl))
  obtain ⟨vs, H1, I1, r1, a, xs, rfl, hq, q⟩ := got
  cases r1 with
  | cons r rr =>
    cases rr
    cases r
    obtain ⟨its, rv, p', hz⟩ := I1.tuple hq
    have alt : a < s1.heap.objs.size := by
      obtain ⟨o, g, _⟩ := id p'
      exact Heap.lt_size g
    refine call_enumT (show s1.heap.IsTuple a its.toArray from p') fun h' he hit hk => wpAny_pyIter_enum he ?_
    refine ⟨s1.heap.objs.size + 1, [s1.heap.objs.size + 1, s1.heap.objs.size], _, _, H1, rfl, I1.kept (t' := s1.toks) hk, turn_enumT a (s1.heap.objs.size + 1) s1.heap.objs.size (Nat.ne_of_lt (Nat.lt_succ_of_lt alt)) (Nat.ne_of_lt alt), ⟨⟨.none, he⟩, hit, Nat.succ_ne_self _⟩, fun b hb => ?_, q⟩
    have hle : s1.heap.objs.size ≤ b := by
      rcases List.mem_cons.mp hb with rfl | hb
      · exact Nat.le_add_right _ _
      · obtain rfl := List.mem_singleton.mp hb
        exact Nat.le_refl _
    exact I1.fpOk hle (I1.hok.fresh hle)
theorem walk_enumT {K : PySem.W.Frag} {a : Addr} {xs : List V} : Walk (Itu K a) xs.length (fun H => SqT K H a xs) (YPair (fun i => some (.int (i : Nat))) (fun i => xs[i]?)) := by
  refine ⟨fun i _ hi q => ⟨xs, xs[i], q, by simp [hi]⟩, fun _ q => ⟨xs, q, Nat.le_refl _⟩, fun i H v H' _ q y => ?_⟩
  obtain ⟨T, x, h1, h2, h3, h4⟩ := y
  exact ⟨T, .int (i : Nat), x, h1, h2, h3, rfl, h4 xs q⟩
theorem dc_it {J : It} {n : Nat} {G : Hp → Prop} {Y : Nat → Hp → V → Hp → Prop} (w : Walk J n G Y) {g : TG} {tt : TT} {tk tv : TE} {vs : List Nat} {σ : L2.St} {H1 : Hp} {D : Addr} {Qd : Hp → Prop} (Pv : Nat → Hp → Prop) (h0 : Pv 0 (upd H1 D (.dK []))) (hG : ∀ i H, i ≤ n → Pv i H → G H)
    (hs : ∀ i x H H', i < n → Pv i H → Y i H x H' → g x (wipe σ vs) H' fun σ2 H2 => wipe σ2 vs = wipe σ vs ∧ tt σ2 H2 fun b H3 =>
      if b = true then tk σ2 H3 fun y H4 => tv σ2 H4 fun z H5 => ∃ kvs k, y = kV k ∧ H5 D = some (.dK kvs) ∧ kvs.length < sizeLine ∧ Pv (i + 1) (upd H5 D (.dK (putK kvs k z))) else Pv (i + 1) H3) (hd : ∀ H, Pv n H → Qd H) :
    ∃ W : Nat → Nat → Hp → Prop, (∃ m, W 0 m (upd H1 D (.dK []))) ∧ ∀ i m H, W i m H →
      (J.stop i H ∧ Qd H) ∨ (J.go i H ∧ ∃ Nx : Hp → Prop, (∀ H', Nx H' → ∃ m', m' < m ∧ W (i + 1) m' H') ∧ ∀ x H', J.yld i H x H' → g x (wipe σ vs) H' fun σ2 H2 => wipe σ2 vs = wipe σ vs ∧ tt σ2 H2 fun b H3 =>
        if b = true then tk σ2 H3 fun y H4 => tv σ2 H4 fun z H5 => ∃ kvs k, y = kV k ∧ H5 D = some (.dK kvs) ∧ kvs.length < sizeLine ∧ Nx (upd H5 D (.dK (putK kvs k z))) else Nx H3) := by
  refine ⟨fun i m H => m = n - i ∧ i ≤ n ∧ Pv i H, ⟨n, rfl, Nat.zero_le _, h0⟩, fun i m H hW => ?_⟩
  obtain ⟨rfl, hi, p⟩ := hW
  have q := hG i H hi p
  rcases Nat.lt_or_eq_of_le hi with lt | rfl
  · exact .inr ⟨w.goes i H lt q, Pv (i + 1), fun H' p' => ⟨n - (i + 1), by omega, rfl, lt, p'⟩, fun x H' y => hs i x H H' lt p (w.yields i H x H' lt q y)⟩
  · exact .inl ⟨w.stops H q, hd H p⟩
/-! ### == and != of data with any texts -/
def rEqP (K : PySem.W.Frag) : R2 := fun x y H Q => ∃ d e, Dp K H x d ∧ Dp K H y e ∧ d.plain = true ∧ e.plain = true ∧ d.depth ≤ 60 ∧ Q (.bl (PyData.eqv d e)) H
def rNeP (K : PySem.W.Frag) : R2 := fun x y H Q => ∃ d e, Dp K H x d ∧ Dp K H y e ∧ d.plain = true ∧ e.plain = true ∧ d.depth ≤ 60 ∧ Q (.bl (!PyData.eqv d e)) H
theorem op_eqP {X : Cx} {k : Nat} (hr : Room k X.A) : OpR X (compareOp .Eq) (rEqP X.K) := by
  intro pins s σ H x y v u Q I rx ry h
  obtain ⟨d, e, hd, he, sd, se, dp, q⟩ := h
  obtain ⟨as, r1⟩ := Dp.reads I d x v hd rx
  obtain ⟨bs, r2⟩ := Dp.reads I e y u he ry
  have hu := hr.units
  exact SeqAt.eq_plain r1 r2 sd se (by omega) ⟨.bl _, H, I, rfl, q⟩
theorem op_neP {X : Cx} {k : Nat} (hr : Room k X.A) : OpR X (compareOp .NotEq) (rNeP X.K) := by
  intro pins s σ H x y v u Q I rx ry h
  obtain ⟨d, e, hd, he, sd, se, dp, q⟩ := h
  obtain ⟨as, r1⟩ := Dp.reads I d x v hd rx
  obtain ⟨bs, r2⟩ := Dp.reads I e y u he ry
  have hu := hr.units
  exact SeqAt.ne_plain r1 r2 sd se (by omega) ⟨.bl _, H, I, rfl, q⟩
/-! ### x in c, data with any texts -/
def rInP (K : PySem.W.Frag) : R2 := fun x y H Q => ∃ d ds, Dp K H x d ∧ Dp K H y (.list ds) ∧ d.plain = true ∧ PyData.plainAll ds = true ∧ d.depth ≤ 60 ∧ Q (.bl (ds.any fun z => PyData.eqv z d)) H
theorem op_inP {X : Cx} {k : Nat} (hr : Room k X.A) : OpR X (compareOp .In) (rInP X.K) := by
  intro pins s σ H x y v u Q I rx ry h
  obtain ⟨d, ds, hd, he, sd, se, dp, q⟩ := h
  obtain ⟨as, r1⟩ := Dp.reads I d x v hd rx
  obtain ⟨bs, r2⟩ := Dp.reads I (.list ds) y u he ry
  have hu := hr.units
  exact SeqAt.in_list_data r2 r1 se sd (by
    have := Nat.min_le_right (PyData.depthAll ds) d.depth
    omega) ⟨.bl _, H, I, rfl, q⟩
/-- what is never reached -/
theorem ps_never {X : Cx} {st : Stmt} : PS X st (fun _ _ _ => False) := ⟨fun _ _ _ _ _ _ h => h.elim⟩
theorem passN {X : Cx} : Passes (L2.CX X.prog X.w) X E0 := fun _ _ _ _ _ _ _ c => by
  obtain ⟨_, _, _, _, _, _, _, _, _, _, _, _, y⟩ := c
  exact y.elim
end DR

namespace DR
open PySem PySem.Spec PyProof.Rows L2
/-! ### forms, names, words -/
theorem form_len (l : Mul) : (form l).length ≤ l.length := by
  unfold form
  rw [List.length_map, (List.mergeSort_perm _ _).length_eq]
  unfold keysN
  refine Nat.le_trans (List.length_filter_le _ _) ?_
  rw [List.length_map]
  exact Nat.le_refl _
theorem form_nod {l : Mul} (nd : NodK l) : NodK (form l) := by
  unfold NodK form
  rw [List.map_map]
  have e : (((keysN l).mergeSort le2).map ((fun x => x.1) ∘ fun u => (u, getI l u))) = (keysN l).mergeSort le2 := by
    conv => rhs; rw [← List.map_id ((keysN l).mergeSort le2)]
    rfl
  rw [e]
  exact (List.mergeSort_perm _ _).nodup_iff.mpr (keysN_nod nd)
theorem acc_nod (l : Mul) : NodK (accAll l) := (acc_go l [] List.nodup_nil).1
theorem form_keys {Pr : List Key → Prop} {l : Mul} (h : ∀ u ∈ l.map (·.1), Pr u) : ∀ u ∈ (form l).map (·.1), Pr u := fun u hu => by
  unfold form at hu
  rw [List.map_map] at hu
  obtain ⟨x, hx, rfl⟩ := List.mem_map.mp hu
  exact h x (List.mem_filter.mp (mem_sort hx)).1
theorem plusA_keys {Pr : List Key → Prop} : ∀ (m l : Mul), (∀ u ∈ m.map (·.1), Pr u) → (∀ u ∈ l.map (·.1), Pr u) → ∀ u ∈ (plusA l m).map (·.1), Pr u
  | [], l, _, hl => hl
  | q :: m, l, hm, hl => plusA_keys m (addP l q.1 q.2) (fun u hu => hm u (List.mem_cons_of_mem _ hu)) (addP_keys hl (hm q.1 (List.mem_cons_self ..)))
theorem getI_acc (l : Mul) (u : List Key) : getI (accAll l) u = lin (isU u) l := by
  rw [getI_lin (acc_nod l)]
  have := (acc_go l [] List.nodup_nil).2 (isU u)
  unfold accAll
  rw [this]
  simp [lin]
theorem form_form {l : Mul} (nd : NodK l) (nm : ∀ u ∈ l.map (·.1), NmU u) : form (form l) = form l :=
  form_eq (form_nod nd) nd (form_keys nm) fun u => by rw [getI_lin (form_nod nd), getI_lin nd, lin_form nd]
theorem acc_one {ps : Mul} (nd : NodK ps) (nm : ∀ u ∈ ps.map (·.1), NmU u) : form (accAll ps) = form ps :=
  form_eq (acc_nod ps) nd (accA_nm nm) fun u => by rw [getI_acc, getI_lin nd]
/-- a name -/
structure NmOk (z : Str) : Prop where
  nm : isNmS z = true
  sh : z.length ≤ 1000
/-- the place of a piece -/
def UkP (u : List Key) : Prop := ∃ z, u = [.inr sPiece, .inr z] ∧ NmOk z
theorem UkP.nmu {u : List Key} (h : UkP u) : NmU u := by
  obtain ⟨z, rfl, _⟩ := h
  exact ⟨sPiece, .inr z, rfl, by decide +kernel, ⟨fun ⟨i, e⟩ => absurd e (by intro z; cases z), fun e => absurd e (by decide +kernel)⟩⟩
theorem UkP.rd {u : List Key} (h : UkP u) : readUnk (unkD u) = some u := by
  obtain ⟨z, rfl, hz⟩ := h
  have r : rank sPiece = some 0 := by decide +kernel
  have n : ¬ sPiece = sIn := by decide +kernel
  show (rank sPiece).bind (fun _ => (ofKey sPiece (.str z)).map fun y => ([.inr sPiece, y] : List Key)) = _
  rw [r]
  show (ofKey sPiece (.str z)).map (fun y => ([.inr sPiece, y] : List Key)) = _
  unfold ofKey
  rw [if_neg n]
  show (if isNmS z = true then some (Sum.inr z : Key) else none).map _ = _
  rw [if_pos hz.nm]
  rfl
theorem UkP.shp {u : List Key} (h : UkP u) : shortP (unkD u) := by
  obtain ⟨z, rfl, hz⟩ := h
  exact ⟨by show sPiece.length ≤ 1000; decide +kernel, hz.sh⟩
/-- a word in its one form -/
structure WdOk (n : Int) (ps : Mul) : Prop where
  nod : NodK ps
  uk : ∀ u ∈ ps.map (·.1), UkP u
  one : form ps = ps
  few : ps.length ≤ 5
  sz : ∀ q ∈ ps, Sz q.2
  nz : Sz n
theorem WdOk.nm {n : Int} {ps : Mul} (h : WdOk n ps) : ∀ u ∈ ps.map (·.1), NmU u := fun u hu => (h.uk u hu).nmu
theorem readUnk_nm {x : PyData} {u : List Key} (h : readUnk x = some u) : NmU u := by
  have go : ∀ (k : Str) (o : PyData), unkOf k o = some u → NmU u := fun k o e => by
    unfold unkOf at e
    cases hr : rank k with
    | none => rw [hr] at e; cases e
    | some i =>
      rw [hr] at e
      have e' : (ofKey k o).map (fun z => [.inr k, z]) = some u := e
      cases hk : ofKey k o with
      | none => rw [hk] at e'; cases e'
      | some z =>
        rw [hk] at e'
        obtain rfl := Option.some.inj e'
        refine ⟨k, z, rfl, by rw [hr]; rfl, ?_⟩
        unfold ofKey at hk
        by_cases c : k = sIn
        · rw [if_pos c] at hk
          refine ⟨fun _ => c, fun _ => ?_⟩
          cases o with
          | int i =>
            dsimp only at hk
            split at hk
            · exact ⟨i, (Option.some.inj hk).symm⟩
            · cases hk
          | _ => cases hk
        · rw [if_neg c] at hk
          refine ⟨fun ⟨i, ei⟩ => ?_, fun z => absurd z c⟩
          cases o with
          | str s =>
            dsimp only at hk
            split at hk
            · rw [ei] at hk
              cases hk
            · cases hk
          | _ => cases hk
  unfold readUnk at h
  split at h
  · exact go _ _ h
  · exact go _ _ h
  · cases h
theorem parts_rd : ∀ (l acc : Mul), (∀ q ∈ l, UkP q.1) → readParts (l.map partD) acc = some (l.foldl (fun a q => addP a q.1 q.2) acc)
  | [], acc, _ => rfl
  | q :: l, acc, h => by
    have e : addPart acc (partD q) = some (addP acc q.1 q.2) := by
      show (readUnk (unkD q.1)).map _ = _
      rw [(h q (List.mem_cons_self ..)).rd]
      rfl
    show (addPart acc (partD q)).bind (readParts (l.map partD)) = _
    rw [e]
    exact parts_rd l _ fun q' hq => h q' (List.mem_cons_of_mem _ hq)
theorem WdOk.rd {n : Int} {ps : Mul} (h : WdOk n ps) : readSum (sumD n ps) = some (n, ps) := by
  show (readParts (ps.map partD) []).map (fun kvs => (n, form kvs)) = _
  rw [parts_rd ps [] fun q hq => h.uk q.1 (List.mem_map.mpr ⟨q, hq, rfl⟩)]
  show some (n, form (accAll ps)) = _
  rw [acc_one h.nod h.nm, h.one]
theorem WdOk.oks {n : Int} {ps : Mul} (h : WdOk n ps) : okSum (sumD n ps) := by
  intro n' q ds e1 e2
  obtain rfl : q = .tuple (ps.map partD) := by
    have := Option.some.inj (show some [PyData.int n, .tuple (ps.map partD)] = some [.int n', q] from e1)
    exact (List.cons.inj (List.cons.inj this).2).1.symm
  obtain rfl := Option.some.inj (show some (ps.map partD) = some ds from e2)
  have few := h.few
  refine ⟨by rw [List.length_map]; omega, fun p hp => ?_⟩
  obtain ⟨q, hq, rfl⟩ := List.mem_map.mp hp
  intro x m e
  obtain rfl : x = unkD q.1 := by
    have := Option.some.inj (show some [unkD q.1, .int q.2] = some [x, .int m] from e)
    exact (List.cons.inj this).1.symm
  exact ⟨(h.uk q.1 (List.mem_map.mpr ⟨q, hq, rfl⟩)).shp, fun u hu => readUnk_nm hu⟩
/-! ### read_address, worth_at -/
def spReadAddr (K : PySem.W.Frag) : Sp := fun vs H Q _ => ∃ (a : Addr) (z : Str) (n : Int), vs = [.ref a] ∧ H a = some (.tup [.str z, .int n]) ∧ NmOk z ∧ ∀ p H', Same H H' → H p = none → H' p = some (.tup [.str z, .int n]) → Q (.ref p) H'
abbrev sReadAddr : Stmt := topS 12
theorem scReadAddr : FnScope ["thing"] ["thing"] (defScope sReadAddr) := ⟨rfl, rfl, rfl, by decide +kernel, rfl, by decide +kernel, by decide +kernel⟩
section
variable {P : Program} {w : World} {K : PySem.W.Frag} {mg : Str → Option Value} {base : Heap}
theorem ok_readAddr {f : Addr} {fd : FuncData} (F : Fun K "read_address" "read_address" sReadAddr f fd) (G1 : Has P w K mg base CX0 2 "is_row_of" ["thing", "many"] (spIsRowOf K)) (G2 : Has P w K mg base CX0 2 "is_name" ["thing"] (spIsName K)) (G3 : Has P w K mg base CX0 2 "is_integer" ["thing"] (spIsInt K)) : FnOk P w K mg base CX0 3 f fd ["thing"] (spReadAddr K) := by
  refine F.ok scReadAddr (fun vs H Q E h => ?_) (fun cdv A outer s H vs Q E hr h => ?_)
  · obtain ⟨a, z, n, rfl, _⟩ := h
    rfl
  · obtain ⟨a, z, n, rfl, ha, hz, q⟩ := h
    refine ⟨_, (pss_cons (ps_if (PW.pt (pw_or (pt_not (pt_val (pe_callH G1 hr (by rfl) pass0 (pa_cons (pv 0) (pa_cons pe_int pa_nil))))) (pw_or (pt_not (pt_val (pe_callH G2 hr (by rfl) pass0 (pa_cons (pe_ix ix_tup (pv 0) pe_int (fun _ _ => rfl)) pa_nil)))) (pw_or1 (pt_not (pt_val (pe_callH G3 hr (by rfl) pass0 (pa_cons (pe_ix ix_tup (pv 0) pe_int (fun _ _ => rfl)) pa_nil)))))))) (pss_one (ps_ret pe_non)) pss_nil)
      (pss_one (ps_ret (pe_tup (pa_cons (pe_ix ix_tup (pv 0) pe_int (fun _ _ => rfl)) (pa_cons (pe_ix ix_tup (pv 0) pe_int (fun _ _ => rfl)) pa_nil)))))), ?_⟩
    refine ⟨_, rfl, .ref a, .tuple [.str z, .int n], 2, rfl, .dat (.tup (SqT.of ha) (.cons (.str z) (.cons (.int n) .nil))), fun H1 s1 => ⟨_, rfl, ?_⟩⟩
    refine iteF ⟨_, rfl, a, _, _, _, rfl, rfl, SqT.of (s1 _ _ ha), at_of (i := 0) rfl, .str z, .str z, rfl, .dat (.str z), hz.sh, fun H2 s2 => ⟨_, rfl, ?_⟩⟩
    rw [show isNm (.str z) = true from hz.nm]
    have s12 := s1.trans s2
    refine iteF ⟨_, rfl, a, _, _, _, rfl, rfl, SqT.of (s12 _ _ ha), at_of (i := 1) rfl, .int n, .int n, rfl, .dat (.int n), _, rfl, ?_⟩
    refine iteF ⟨_, rfl, a, _, _, _, rfl, rfl, SqT.of (s12 _ _ ha), at_of (i := 0) rfl, _, rfl, a, _, _, _, rfl, rfl, SqT.of (s12 _ _ ha), at_of (i := 1) rfl, (by show 2 ≤ sizeLine; decide), fun p hp => ?_⟩
    refine q p _ (s12.trans (same_new hp)) ?_ upd_same
    cases e : H p with
    | none => rfl
    | some o => rw [s12 _ _ e] at hp; cases hp
end
end DR

namespace DR
open PySem PySem.Spec PyProof.Rows L2
/-! ### pieces of any data -/
abbrev Pk := Str × Str × List (Int × Mul)
abbrev SumP (H : Hp) (v : V) (q : Int × Mul) : Prop := SumT H v q.1 q.2
def PieceG (H : Hp) (v : V) (q : Pk) : Prop := ∃ a b ws, v = .ref a ∧ H a = some (.tup [.str q.1, .str q.2.1, .ref b]) ∧ H b = some (.tup ws) ∧ PySem.W.EachIs (SumP H) ws q.2.2
theorem pieceG_s {H H' : Hp} (e : TupS H H') {v : V} {q : Pk} (h : PieceG H v q) : PieceG H' v q := by
  obtain ⟨a, b, ws, h1, h2, h3, h4⟩ := h
  exact ⟨a, b, ws, h1, e _ _ h2, e _ _ h3, eachs_imp (fun _ _ => sumT_s e) h4⟩
def PcV (H : Hp) (v : V) : Option Pk → Prop
  | none => v = .non
  | some q => PieceG H v q
def readAllS : List PyData → Option (List (Int × Mul))
  | [] => some []
  | w :: r => (readSum w).bind fun s => (readAllS r).map fun l => s :: l
def kinds2 : List Str := ["code", "data"]
def readPc (d : PyData) : Option Pk := match items d with
  | some [.str p, .str k, ws] => if isNmS p = true ∧ k ∈ kinds2 then (items ws).bind fun wl => (readAllS wl).map fun l => (p, k, l) else none
  | _ => none
def okPc (d : PyData) : Prop := ∀ p k ws, items d = some [p, k, ws] → shortS p ∧ ∀ wl, items ws = some wl → wl.length ≤ 100 ∧ ∀ w ∈ wl, okSum w
theorem th_items {K : PySem.W.Frag} {H : Hp} {v : V} {d : PyData} {ds : List PyData} (h : Th K H v d) (e : items d = some ds) : ∃ a xs, v = .ref a ∧ (SqL K H a xs ∨ SqT K H a xs) ∧ DpAll K H xs ds := by
  cases h with
  | dct h => cases e
  | dat h =>
    cases h with
    | lst s t => cases e; exact ⟨_, _, rfl, .inl s, t⟩
    | tup s t => cases e; exact ⟨_, _, rfl, .inr s, t⟩
    | non => cases e
    | bl b => cases e
    | int i => cases e
    | str x => cases e
theorem readParts_nm : ∀ {ds : List PyData} {acc kvs : Mul}, (∀ u ∈ acc.map (·.1), NmU u) → readParts ds acc = some kvs → ∀ u ∈ kvs.map (·.1), NmU u
  | [], acc, kvs, h, e => by cases e; exact h
  | p :: ds, acc, kvs, h, e => by
    have e : (addPart acc p).bind (readParts ds) = some kvs := e
    cases e1 : addPart acc p with
    | none => rw [e1] at e; cases e
    | some acc' =>
      rw [e1] at e
      refine readParts_nm ?_ (show readParts ds acc' = some kvs from e)
      unfold addPart at e1
      split at e1
      · rename_i x m _
        cases e2 : readUnk x with
        | none => rw [e2] at e1; cases e1
        | some u =>
          rw [e2] at e1
          cases e1
          exact putI_keys (readUnk_nm e2) h
      · cases e1
theorem readSum_nm {d : PyData} {n : Int} {ps : Mul} (e : readSum d = some (n, ps)) : ∀ u ∈ ps.map (·.1), NmU u := by
  unfold readSum at e
  split at e
  · cases e
    intro u hu
    simp at hu
  · split at e
    · rename_i q _
      cases e1 : items q with
      | none => rw [e1] at e; cases e
      | some ds =>
        rw [e1] at e
        have e : (readParts ds []).map (fun kvs => (_, form kvs)) = some (n, ps) := e
        cases e2 : readParts ds [] with
        | none => rw [e2] at e; cases e
        | some kvs =>
          rw [e2] at e
          cases e
          exact form_keys (readParts_nm (fun u hu => by simp at hu) e2)
    · cases e
theorem plain_sumD {n : Int} {ps : Mul} (nm : ∀ u ∈ ps.map (·.1), NmU u) : (sumD n ps).plain = true := by
  have go : ∀ ps : Mul, (∀ u ∈ ps.map (·.1), NmU u) → PyData.plainAll (ps.map partD) = true := fun ps => by
    induction ps with
    | nil => exact fun _ => rfl
    | cons q l ih =>
      intro hn
      have a1 := plain_unkD (hn q.1 (List.mem_cons_self ..))
      have a2 := ih fun u hu => hn u (List.mem_cons_of_mem _ hu)
      rw [List.map_cons]
      simp [PyData.plainAll, partD, PyData.plain, a1, a2]
  have h2 := go ps nm
  simp [sumD, PyData.plainAll, PyData.plain, h2]
/-- what a word comes to, as data -/
def rsD (w : PyData) : PyData := match readSum w with
  | none => .none
  | some s => sumD s.1 s.2
theorem rsD_plain : ∀ wl : List PyData, PyData.plainAll (wl.map rsD) = true
  | [] => rfl
  | w :: wl => by
    have h : (rsD w).plain = true := by
      unfold rsD
      cases e : readSum w with
      | none => rfl
      | some s =>
        obtain ⟨n, ps⟩ := s
        exact plain_sumD (readSum_nm e)
    rw [List.map_cons]
    show (_ && _) = true
    rw [h, rsD_plain wl]
    rfl
theorem rsD_none (wl : List PyData) : ((wl.map rsD).any fun z => PyData.eqv z .none) = wl.any fun w => (readSum w).isNone := by
  rw [List.any_map]
  congr 1
  funext w
  show PyData.eqv (rsD w) .none = _
  unfold rsD
  cases readSum w with
  | none => rfl
  | some s => rfl
abbrev SumO (K : PySem.W.Frag) (H : Hp) (v : V) (w : PyData) : Prop := SumV K H v (readSum w)
theorem sumO_s {K : PySem.W.Frag} {H H' : Hp} (e : TupS H H') {v : V} {w : PyData} (h : SumO K H v w) : SumO K H' v w := by
  unfold SumO at h ⊢
  cases e1 : readSum w with
  | none => rw [e1] at h; exact h
  | some s =>
    obtain ⟨n, ps⟩ := s
    rw [e1] at h
    exact sumT_s e h
theorem sumO_dp {K : PySem.W.Frag} {H : Hp} : ∀ {vs : List V} {wl : List PyData}, PySem.W.EachIs (SumO K H) vs wl → DpAll K H vs (wl.map rsD)
  | _, _, .nil => .nil
  | _, w :: _, .cons (a := v) h t => by
    have hd : Dp K H v (rsD w) := by
      have h : SumV K H v (readSum w) := h
      unfold rsD
      cases e : readSum w with
      | none =>
        rw [e] at h
        obtain rfl : v = .non := h
        exact .non
      | some s =>
        obtain ⟨n, ps⟩ := s
        rw [e] at h
        exact sumT_dp h
    exact .cons hd (sumO_dp t)
theorem sumO_all {K : PySem.W.Frag} {H : Hp} : ∀ {vs : List V} {wl : List PyData}, PySem.W.EachIs (SumO K H) vs wl → (wl.any fun w => (readSum w).isNone) = false → ∃ l, readAllS wl = some l ∧ PySem.W.EachIs (SumP H) vs l
  | _, _, .nil, _ => ⟨[], rfl, .nil⟩
  | _, w :: wl, .cons h t, e => by
    rw [List.any_cons, Bool.or_eq_false_iff] at e
    obtain ⟨l, h1, h2⟩ := sumO_all t e.2
    have h : SumV K H _ (readSum w) := h
    cases e1 : readSum w with
    | none => rw [e1] at e; cases e.1
    | some s =>
      obtain ⟨n, ps⟩ := s
      rw [e1] at h
      refine ⟨(n, ps) :: l, ?_, .cons h h2⟩
      show (readSum w).bind _ = _
      rw [e1, h1]
      rfl
theorem sumO_no : ∀ {wl : List PyData}, (wl.any fun w => (readSum w).isNone) = true → readAllS wl = none
  | w :: wl, e => by
    show (readSum w).bind _ = none
    cases e1 : readSum w with
    | none => rfl
    | some s =>
      have : (wl.any fun w => (readSum w).isNone) = true := by
        rw [List.any_cons, e1] at e
        exact e
      show ((readAllS wl).map _) = none
      rw [sumO_no this]
      rfl
def spReadPc (K : PySem.W.Frag) : Sp := fun vs H Q _ => ∃ v d, vs = [v] ∧ Th K H v d ∧ okPc d ∧ ∀ v' H', Same H H' → PcV H' v' (readPc d) → Q v' H'
abbrev sReadPc : Stmt := topS 20
theorem three {d : PyData} (e : isRof d 3 = true) : ∃ x y z, items d = some [x, y, z] := by
  unfold isRof at e
  cases h : items d with
  | none => rw [h] at e; cases e
  | some xs =>
    rw [h] at e
    have e : (xs.length : Int) = 3 := of_decide_eq_true e
    match xs, e with
    | [x, y, z], _ => exact ⟨x, y, z, rfl⟩
    | [], z => exact absurd z (by decide)
    | [_], z => exact absurd z (by simp)
    | [_, _], z => exact absurd z (by simp)
    | _ :: _ :: _ :: _ :: _, z => simp at z; omega
theorem not_three {d : PyData} (e : isRof d 3 = false) : readPc d = none := by
  unfold readPc
  split
  · rename_i p k ws h
    unfold isRof at e
    rw [h] at e
    simp at e
  · rfl
end DR

namespace DR
open PySem PySem.Spec PyProof.Rows L2
theorem scReadPc : FnScope ["thing", "p", "kind", "words", "sums", "word"] ["thing"] (defScope sReadPc) := ⟨rfl, rfl, rfl, by decide +kernel, rfl, by decide +kernel, by decide +kernel⟩
theorem in_kinds (k : Str) : inV (.str k) [V.str "code", V.str "data"] = decide (k ∈ kinds2) := by
  unfold inV kinds2
  rw [Bool.eq_iff_iff, List.any_eq_true, decide_eq_true_iff]
  constructor
  · rintro ⟨x, hx, e⟩
    simp only [List.mem_cons, List.not_mem_nil, or_false] at hx
    rcases hx with rfl | rfl
    · have e : (("code" : Str) == k) = true := e
      simp at e
      simp [← e]
    · have e : (("data" : Str) == k) = true := e
      simp at e
      simp [← e]
  · intro h
    simp only [List.mem_cons, List.not_mem_nil, or_false] at h
    rcases h with rfl | rfl
    · exact ⟨.str "code", by simp, show (("code" : Str) == "code") = true by simp⟩
    · exact ⟨.str "data", by simp, show (("data" : Str) == "data") = true by simp⟩
theorem go2 {K : PySem.W.Frag} {H : Hp} : ∀ {vs : List V} {ds : List PyData}, DpAll K H vs ds → vs.length = ds.length
  | _, _, .nil => rfl
  | _, _, .cons _ t => by rw [List.length_cons, List.length_cons, go2 t]
section
variable {P : Program} {w : World} {K : PySem.W.Frag} {mg : Str → Option Value} {base : Heap}
theorem ok_readPc {f : Addr} {fd : FuncData} (F : Fun K "read_piece" "read_piece" sReadPc f fd) (T : Bi mg) (G1 : Has P w K mg base CX0 4 "is_row_of" ["thing", "many"] (spIsRowOf K)) (G2 : Has P w K mg base CX0 4 "is_name" ["thing"] (spIsName K)) (G3 : Has P w K mg base CX0 4 "is_row" ["thing"] (spIsRow K)) (G4 : Has P w K mg base CX0 4 "read_sum" ["thing"] (spReadSum K)) : FnOk P w K mg base CX0 5 f fd ["thing"] (spReadPc K) := by
  refine F.ok scReadPc (fun vs H Q E h => ?_) (fun cdv A outer s H vs Q E hr h => ?_)
  · obtain ⟨v, q, rfl, _⟩ := h
    rfl
  · obtain ⟨v, d, rfl, th, ok, q⟩ := h
    refine ⟨_, (pss_cons (ps_if (pt_not (pt_val (pe_callH G1 hr (by rfl) pass0 (pa_cons (pv 0) (pa_cons pe_int pa_nil))))) (pss_one (ps_ret pe_non)) pss_nil)
      (pss_cons (ps_asg (pv 0) (pg_row rfl (pgs_cons (pg_name (i := 1) scReadPc.nd rfl (.inl rfl)) (pgs_cons (pg_name (i := 2) scReadPc.nd rfl (.inl rfl)) (pgs_cons (pg_name (i := 3) scReadPc.nd rfl (.inl rfl)) pgs_nil)))))
      (pss_cons (ps_if (PW.pt (pw_or (pt_not (pt_val (pe_callH G2 hr (by rfl) pass0 (pa_cons (pv 1) pa_nil)))) (pw_or (pt_not (pt_val (pe_callB call_isi (by rfl) T.isinstance (by decide +kernel) (pa_cons (pv 2) (pa_cons (pe_bltn (v := .ty "str") (by rfl) T.str (by decide +kernel) rfl) pa_nil))))) (pw_or (pt_cmpR op_notIn_seq (pv 2) (pe_tup (pa_cons pe_str (pa_cons pe_str pa_nil))) (by rfl)) (pw_or1 (pt_not (pt_val (pe_callH G3 hr (by rfl) pass0 (pa_cons (pv 3) pa_nil))))))))) (pss_one (ps_ret pe_non)) pss_nil)
      (pss_cons (ps_setLc (i := 4) (own := [("word", 5)]) (g := gName 5) (tt := tYes) (te := tCall (spReadSum K) [] E0 (tCons (tVar 5) tNil)) rfl scReadPc.nd rfl rfl (sw_true rfl rfl rfl (by decide +kernel)) (pi_seq (pv 3)) (blkOk_by (N := ["thing", "p", "kind", "words", "sums", "word"]) (sc := defScope sReadPc) (by decide +kernel)) (fun _ _ _ _ _ => pg_name (i := 5) scReadPc.nd rfl (.inl rfl)) (fun _ _ _ _ _ => pts_nil) (fun _ _ _ _ _ => (pe_callH G4 hr (by rfl) pass0 (pa_cons (pv 5) pa_nil))))
      (pss_cons (ps_if (pt_cmpR (op_inP hr) pe_non (pv 4) (by rfl)) (pss_one (ps_ret pe_non)) pss_nil)
      (pss_one (ps_ret (pe_tup (pa_cons (pv 1) (pa_cons (pv 2) (pa_cons (pe_callTy call_tuple_of (by rfl) T.tuple (by decide +kernel) (pa_cons (pv 4) pa_nil)) pa_nil))))))))))), ?_⟩
    refine ⟨_, rfl, v, d, 3, rfl, th, fun H1 s1 => ⟨_, rfl, ?_⟩⟩
    cases e3 : isRof d 3 with
    | false => exact iteT (q _ _ s1 (by rw [not_three e3]; rfl))
    | true =>
      obtain ⟨x, y, z, ei⟩ := three e3
      obtain ⟨okx, okz⟩ := ok x y z ei
      obtain ⟨a, vs, rfl, hsq, hall⟩ := th_items (th_same s1 th) ei
      cases hall with
      | @cons v1 _ _ _ h1 t1 => cases t1 with
        | @cons v2 _ _ _ h2 t2 => cases t2 with
          | @cons v3 _ _ _ h3 t3 =>
            cases t3
            refine iteF ⟨_, rfl, ?_⟩
            have go : ∀ {t : TGs} {Q' : L2.St → Hp → Prop} {σ : L2.St}, t [v1, v2, v3] σ H1 Q' → gRow K 3 t (.ref a) σ H1 Q' := fun {t Q' σ} h => by
              rcases hsq with hs | hs
              · exact .inr ⟨a, _, rfl, hs, rfl, h⟩
              · exact .inl ⟨a, _, rfl, hs, rfl, h⟩
            refine go ⟨_, _, rfl, _, _, rfl, _, _, rfl, rfl, ?_⟩
            refine ⟨_, rfl, v1, x, rfl, .dat h1, okx, fun H2 s2 => ⟨_, rfl, ?_⟩⟩
            have no : ∀ {H' : Hp}, Same H1 H' → readPc d = none → Q .non H' := fun s' e => q _ _ (s1.trans s') (by rw [e]; rfl)
            cases en : isNm x with
            | false =>
              refine iteT (iteT (no s2 ?_))
              unfold readPc
              rw [ei]
              split
              · rename_i p k ws h
                cases h
                rw [if_neg (fun c => by rw [show isNmS p = false from en] at c; cases c.1)]
              · rfl
            | true =>
              obtain ⟨p, rfl, hp⟩ : ∃ p, x = .str p ∧ isNmS p = true := by
                cases x with
                | str p => exact ⟨p, rfl, en⟩
                | none => cases en
                | bool b => cases en
                | int i => cases en
                | list l => cases en
                | tuple l => cases en
                | dict l => cases en
              cases h1
              refine iteF ⟨_, rfl, v2, _, _, _, _, rfl, .ty "str", th_ty (.dat (dp_same s2 h2)), kit_str y, _, rfl, ?_⟩
              cases es : isS y with
              | false =>
                refine iteT (iteT (no s2 ?_))
                unfold readPc
                rw [ei]
                split
                · rename_i p k ws h
                  cases h
                  cases es
                · rfl
              | true =>
                obtain ⟨k, rfl⟩ : ∃ k, y = .str k := by
                  cases y with
                  | str p => exact ⟨p, rfl⟩
                  | none => cases es
                  | bool b => cases es
                  | int i => cases es
                  | list l => cases es
                  | tuple l => cases es
                  | dict l => cases es
                cases h2
                refine iteF ⟨_, rfl, (by show 2 ≤ sizeLine; decide), fun p3 n3 => ⟨p3, _, rfl, .inr (SqT.of upd_same), rfl, rfl, _, rfl, ?_⟩⟩
                have s3 := same_new (o := .tup [V.str "code", V.str "data"]) n3
                have s13 := s2.trans s3
                generalize upd H2 p3 (.tup [V.str "code", V.str "data"]) = H3 at s13 ⊢
                show (if (!inV (.str k) [V.str "code", V.str "data"]) = true then _ else _)
                rw [in_kinds]
                by_cases hk : k ∈ kinds2
                · rw [decide_eq_true hk]
                  refine iteF ⟨_, rfl, v3, z, rfl, .dat (dp_same s13 h3), fun H4 s4 => ⟨_, rfl, ?_⟩⟩
                  have s14 := s13.trans s4
                  have rp : ∀ r, (items z).bind (fun wl => (readAllS wl).map fun l => (p, k, l)) = r → readPc d = r := fun r e => by
                    unfold readPc
                    rw [ei]
                    show (if isNmS p = true ∧ k ∈ kinds2 then _ else _) = r
                    rw [if_pos ⟨hp, hk⟩]
                    exact e
                  cases ew : items z with
                  | none =>
                    have : isR z = false := by cases z <;> first | rfl | cases ew
                    rw [this]
                    exact iteT (no s14 (rp none (by rw [ew]; rfl)))
                  | some wl =>
                    have : isR z = true := by cases z <;> first | rfl | cases ew
                    rw [this]
                    obtain ⟨lw, okw⟩ := okz wl ew
                    obtain ⟨b, ws, e3', hws, hdw⟩ := th_items (.dat (dp_same s14 h3)) ew
                    subst e3'
                    have ll : ws.length = wl.length := go2 hdw
                    refine iteF ⟨_, rfl, b, ws, rfl, hws, fun J Gd W hG => fun D hD => ?_⟩
                    refine lc_it W (fun i H5 => (∀ c o, c ≠ D → H4 c = some o → H5 c = some o) ∧ ∃ zs, H5 D = some (.lst zs) ∧ zs.length = i ∧ PySem.W.EachIs (SumO K H5) zs (wl.take i))
                      ⟨fun c o hc e => by rw [upd_ne hc]; exact e, [], upd_same, rfl, .nil⟩ (fun i H5 _ ⟨kp, _⟩ => hG H5 (fun zz => sqL_same (fun c o e => kp c o (ne_of_none e hD) e) zz) (fun zz => sqT_same (fun c o e => kp c o (ne_of_none e hD) e) zz)) ?_ ?_
                    · rintro i u H5 H5' hi ⟨kp, zs, hD5, hl, hz⟩ ⟨rfl, hu⟩
                      obtain ⟨wd, hwd, hdd⟩ := dps_get hdw hu
                      have s5 : Same H4 H5' := fun c o e => kp c o (ne_of_none e hD) e
                      refine ⟨rfl, yes_go (iteT ⟨_, rfl, u, wd, rfl, .dat (dp_same s5 hdd), okw wd (List.mem_of_getElem? hwd), fun v' H6 s6 hv' => ?_⟩)⟩
                      have hD6 := s6 _ _ hD5
                      have ts := TupS.put (o' := .lst (zs ++ [v'])) hD6 (by intro xs z; cases z)
                      refine ⟨zs, hD6, small1000 (by omega), fun c o hc e => by rw [upd_ne hc]; exact s6 _ _ (kp c o hc e), zs ++ [v'], upd_same, by simp [hl], ?_⟩
                      rw [List.take_add_one, hwd]
                      exact eachs_snoc (R := SumO K _) (sumO_s ts hv') (eachs_imp (fun _ _ => sumO_s ((TupS.of s6).trans ts)) hz)
                    · rintro H5 ⟨kp, zs, hD5, hl, hz⟩
                      rw [ll, List.take_length] at hz
                      have s5 : Same H4 H5 := fun c o e => kp c o (ne_of_none e hD) e
                      refine ⟨_, rfl, .none, _, .non, .lst (SqL.of hD5) (sumO_dp hz), rfl, rsD_plain wl, by simp [PyData.depth], _, rfl, ?_⟩
                      rw [rsD_none]
                      cases ea : wl.any fun w => (readSum w).isNone with
                      | true => exact iteT (no (s14.trans s5) (rp none (by rw [ew]; show (readAllS wl).map _ = none; rw [sumO_no ea]; rfl)))
                      | false =>
                        obtain ⟨l, hl1, hl2⟩ := sumO_all hz ea
                        refine iteF ⟨_, rfl, _, rfl, _, rfl, D, zs, rfl, .inl ⟨SqL.of hD5, fun p6 n6 => ⟨(by show 3 ≤ sizeLine; decide), fun p7 n7 => ?_⟩⟩⟩
                        have s6 := same_new (o := .tup zs) n6
                        have s7 := same_new (o := .tup [V.str p, V.str k, V.ref p6]) n7
                        refine q _ _ ((((s1.trans s14).trans s5).trans s6).trans s7) ?_
                        rw [rp (some (p, k, l)) (by rw [ew]; show (readAllS wl).map _ = _; rw [hl1]; rfl)]
                        exact ⟨p7, p6, zs, rfl, upd_same, s7 _ _ upd_same, eachs_imp (fun _ _ => sumT_s (TupS.of (s6.trans s7))) hl2⟩
                · rw [decide_eq_false hk]
                  refine iteT (iteT (no s13 ?_))
                  unfold readPc
                  rw [ei]
                  show (if isNmS p = true ∧ k ∈ kinds2 then _ else _) = none
                  rw [if_neg (fun c => hk c.2)]
end
end DR

namespace DR
open PySem PySem.Spec PyProof.Rows L2
/-! ### enumerate of a list or a tuple -/
def iEnumS (K : PySem.W.Frag) (ta : TA) : TI := fun σ H R => iEnum K ta σ H R ∨ iEnumT K ta σ H R
theorem pi_enumS {X : Cx} {e : Expr} {ta : TA} {p pos tpos : Pos} {elts : List Expr} {kk : Nat} (hg : Gl X "enumerate") (hm : X.mg "enumerate" = none) (ha : PA X [e] ta) (hs : starEach [e] X.env = [(false, eval e X.env)] := by rfl) :
    PI X (.Tuple elts kk tpos) (.Call (.Name "enumerate" p) [e] [] pos) (iEnumS X.K ta) :=
  ⟨fun pins s σ H R I h => h.elim (fun z => (pi_enum hg hm ha hs).run pins s σ H R I z) fun z => (pi_enumT hg hm ha hs).run pins s σ H R I z⟩
theorem enumS_go {K : PySem.W.Frag} {i : Nat} {σ : L2.St} {H0 H : Hp} {R : It → Hp → Prop} {l : Addr} {xs : List V} (hv : σ[i]? = some (some (.ref l))) (hs : SqL K H0 l xs ∨ SqT K H0 l xs) (s0 : Same H0 H)
    (main : ∀ (J : It) (G : Hp → Prop), Walk J xs.length G (YPair (fun i => some (.int (i : Nat))) (fun i => xs[i]?)) → (∀ H4, Same H0 H4 → G H4) → R J H) : iEnumS K (tCons (tVar i) tNil) σ H R := by
  rcases hs with hs | hs
  · exact .inl ⟨_, hv, l, xs, rfl, sqL_same s0 hs, main _ _ walk_enum fun H4 a => sqL_same a hs⟩
  · exact .inr ⟨_, hv, l, xs, rfl, sqT_same s0 hs, main _ _ walk_enumT fun H4 a => sqT_same a hs⟩
/-! ### read_pieces -/
def GoodP (d : PyData) (q : Pk) : Prop := readPc d = some q
/-- what is wrong with the thing at i -/
def BadP (ds : List PyData) (i : Nat) : Prop := ∃ x qs, ds[i]? = some x ∧ PySem.W.EachIs GoodP (ds.take i) qs ∧ (qs.map (·.1)).Nodup ∧ (readPc x = none ∨ ∃ q, readPc x = some q ∧ q.1 ∈ qs.map (·.1))
/-- a thing, or a row of things -/
def ThE (K : PySem.W.Frag) (H : Hp) (v : V) (d : PyData) : Prop := (items d = none ∧ Th K H v d) ∨ ∃ a xs ds, v = .ref a ∧ items d = some ds ∧ (SqL K H a xs ∨ SqT K H a xs) ∧ PySem.W.EachIs (Th K H) xs ds
theorem ths_of {K : PySem.W.Frag} {H : Hp} : ∀ {vs : List V} {ds : List PyData}, DpAll K H vs ds → PySem.W.EachIs (Th K H) vs ds
  | _, _, .nil => .nil
  | _, _, .cons h t => .cons (.dat h) (ths_of t)
theorem thE_of {K : PySem.W.Frag} {H : Hp} {v : V} {d : PyData} (h : Th K H v d) : ThE K H v d := by
  cases e : items d with
  | none => exact .inl ⟨e, h⟩
  | some ds =>
    obtain ⟨a, xs, rfl, hsq, hall⟩ := th_items h e
    exact .inr ⟨a, xs, ds, rfl, e, hsq, ths_of hall⟩
theorem thE_same {K : PySem.W.Frag} {H H' : Hp} (e : Same H H') {v : V} {d : PyData} (h : ThE K H v d) : ThE K H' v d := by
  rcases h with ⟨n, h⟩ | ⟨a, xs, ds, h1, h2, h3, h4⟩
  · exact .inl ⟨n, th_same e h⟩
  · exact .inr ⟨a, xs, ds, h1, h2, row_sq e h3, eachs_imp (fun _ _ => th_same e) h4⟩
def spIsRowA (K : PySem.W.Frag) : Sp := fun vs H Q _ => ∃ v d, vs = [v] ∧ ThE K H v d ∧ ∀ H', Same H H' → Q (.bl (isR d)) H'
theorem ok_isRowA {P : Program} {w : World} {K : PySem.W.Frag} {mg : Str → Option Value} {base : Heap} {f : Addr} {fd : FuncData} (F : Fun K "is_row" "is_row" sIsRow f fd) (T : Bi mg) : FnOk P w K mg base CX0 1 f fd ["thing"] (spIsRowA K) := by
  refine F.ok scIsRow (fun vs H Q E h => ?_) (fun cdv A outer s H vs Q E hr h => ?_)
  · obtain ⟨v, d, rfl, _⟩ := h
    rfl
  · obtain ⟨v, d, rfl, th, q⟩ := h
    refine ⟨_, (pss_one (ps_ret (pe_callB call_isiT (by rfl) T.isinstance (by decide +kernel) (pa_cons (pv 0) (pa_cons (pe_tup (pa_cons (pe_bltn (v := .ty "list") (by rfl) T.list (by decide +kernel) rfl) (pa_cons (pe_bltn (v := .ty "tuple") (by rfl) T.tuple (by decide +kernel) rfl) pa_nil))) pa_nil))))), ?_⟩
    refine ⟨_, rfl, (by show 2 ≤ sizeLine; decide), fun p hp => ?_⟩
    have s1 := same_new (o := .tup [V.ty "list", V.ty "tuple"]) hp
    rcases thE_same s1 th with ⟨n, th1⟩ | ⟨a, xs, ds, rfl, ei, hsq, _⟩
    · exact ⟨v, p, _, _, _, _, rfl, upd_same, .cons (.ty "list") (.cons (.ty "tuple") .nil), th_ty th1, kit_row d, q _ s1⟩
    · have e : isR d = true := by cases d <;> first | rfl | cases ei
      rw [e] at q
      rcases hsq with h | h
      · exact ⟨.ref a, p, _, _, _, _, rfl, upd_same, .cons (.ty "list") (.cons (.ty "tuple") .nil), ty_list h, kit_row (.list []), q _ s1⟩
      · exact ⟨.ref a, p, _, _, _, _, rfl, upd_same, .cons (.ty "list") (.cons (.ty "tuple") .nil), ty_tup h, kit_row (.tuple []), q _ s1⟩
def spReadPcs (K : PySem.W.Frag) (CB : Addr) : Sp := fun vs H Q E => ∃ v d, vs = [v] ∧ ThE K H v d ∧
  ((items d = none ∧ ∀ H' dx, Same H H' → H' dx = none → E (.ref CB) (some dx) (upd H' dx (.xd [("index", .int 0)]))) ∨
   ∃ ds, items d = some ds ∧ ds.length ≤ 20 ∧ (∀ x ∈ ds, okPc x) ∧ (∀ i, BadP ds i → ∀ H' dx, Same H H' → H' dx = none → E (.ref CB) (some dx) (upd H' dx (.xd [("index", .int (i : Nat))]))) ∧
     ∀ qs, PySem.W.EachIs GoodP ds qs → (qs.map (·.1)).Nodup → ∀ D ys H', Same H H' → H D = none → H' D = some (.lst ys) → PySem.W.EachIs (PieceG H') ys qs → Q (.ref D) H')
abbrev sReadPcs : Stmt := topS 21
theorem scReadPcs : FnScope ["pieces", "found", "stood", "index", "thing", "piece"] ["pieces"] (defScope sReadPcs) := ⟨rfl, rfl, rfl, by decide +kernel, rfl, by decide +kernel, by decide +kernel⟩
theorem none_of {H H' : Hp} {b : Addr} (s : Same H H') (h : H' b = none) : H b = none := by
  cases e : H b with
  | none => rfl
  | some o => rw [s _ _ e] at h; cases h
def stoodD (zs : List Str) : List (Key × V) := zs.map fun z => (.inr z, V.bl true)
theorem stood_val (zs : List Str) (z : Str) : (valV (stoodD zs) (.inr z)).isSome = decide (z ∈ zs) := by
  unfold valV stoodD
  induction zs with
  | nil => rfl
  | cons y zs ih =>
    rw [List.map_cons]
    by_cases c : y = z
    · subst c
      rw [List.find?_cons_of_pos (by simp)]
      simp
    · rw [List.find?_cons_of_neg (by simp [c])]
      rw [ih]
      simp [Ne.symm c]
theorem stood_put (zs : List Str) {z : Str} (h : z ∉ zs) : putK (stoodD zs) (.inr z) (.bl true) = stoodD (zs ++ [z]) := by
  unfold putK stoodD
  rw [if_neg]
  · rw [List.map_append]
    rfl
  · intro c
    obtain ⟨p, hp, e⟩ := List.any_eq_true.mp c
    obtain ⟨y, hy, rfl⟩ := List.mem_map.mp hp
    have : y = z := Sum.inr.inj (of_decide_eq_true e)
    exact h (this ▸ hy)
section
variable {P : Program} {w : World} {K : PySem.W.Frag} {mg : Str → Option Value} {base : Heap}
theorem ok_readPcs {f CB : Addr} {fd : FuncData} (F : Fun K "read_pieces" "read_pieces" sReadPcs f fd) (T : Bi mg) (S : Err P w K mg base "BadPiece" CB "index") (G1 : Has P w K mg base CX0 5 "is_row" ["thing"] (spIsRowA K)) (G2 : Has P w K mg base CX0 5 "read_piece" ["thing"] (spReadPc K)) : FnOk P w K mg base (L2.CX P w) 6 f fd ["pieces"] (spReadPcs K CB) := by
  refine F.okX scReadPcs (fun vs H Q E h => ?_) (fun cdv A outer s H vs Q E hr h => ?_)
  · obtain ⟨v, d, rfl, _⟩ := h
    rfl
  · obtain ⟨v, d, rfl, th, want⟩ := h
    have hu := hu_of hr
    refine ⟨_, (pss_cons (ps_if (pt_not (pt_val (pe_callH G1 hr (by rfl) pass0 (pa_cons (pv 0) pa_nil)))) (pss_one (ps_err rfl (takes_of rfl rfl rfl rfl) S hr (by decide) pe_int)) pss_nil)
      (pss_cons (ps_set (i := 1) scReadPcs.nd rfl (.inl rfl) (pe_lst pa_nil))
      (pss_cons (ps_set (i := 2) scReadPcs.nd rfl (.inl rfl) (pe_dnewK))
      (pss_cons (ps_for (passes_of rfl) rfl (pi_enumS (by rfl) T.enumerate (pa_cons (pv 0) pa_nil)) (pg_tup rfl (pgs_cons (pg_name (i := 3) scReadPcs.nd rfl (.inl rfl)) (pgs_cons (pg_name (i := 4) scReadPcs.nd rfl (.inl rfl)) pgs_nil))) (pss_cons (ps_set (i := 5) scReadPcs.nd rfl (.inl rfl) (pe_callH G2 hr (by rfl) pass0 (pa_cons (pv 4) pa_nil)))
      (pss_cons (ps_if (PW.pt (pw_or (pt_cmpR op_isN (pv 5) pe_non (nomark _)) (pw_or1 (pt_cmp (pc_din hu (pe_ix ix_tup (pv 5) pe_int (fun _ _ => rfl)) (pv 2)) (by rfl))))) (pss_one (ps_err rfl (takes_of rfl rfl rfl rfl) S hr (by decide) (pv 3))) pss_nil)
      (pss_cons (ps_dput hu (pv 2) (pe_ix ix_tup (pv 5) pe_int (fun _ _ => rfl)) pe_bl rfl)
      (pss_one (ps_expr (pe_bm PySem.F.plainAttrs_list PySem.F.slot_list_append PySem.F.type_list_append mt_append (pv 1) (pa_cons (pv 5) pa_nil))))))))
      (pss_one (ps_ret (pv 1))))))), ?_⟩
    refine ⟨_, rfl, v, d, rfl, th, fun H1 s1 => ⟨_, rfl, ?_⟩⟩
    rcases want with ⟨ei, qe⟩ | ⟨ds, ei, few, okd, qe, q⟩
    · have : isR d = false := by cases d <;> first | rfl | cases ei
      rw [this]
      exact iteT (err_go fun dx hdx => qe H1 dx s1 hdx)
    · have : isR d = true := by cases d <;> first | rfl | cases ei
      rw [this]
      obtain ⟨l, xs, rfl, hsq, hall⟩ : ∃ l xs, v = .ref l ∧ (SqL K H l xs ∨ SqT K H l xs) ∧ PySem.W.EachIs (Th K H) xs ds := by
        rcases th with ⟨n, _⟩ | ⟨a, xs, ds', h1, h2, h3, h4⟩
        · rw [n] at ei; cases ei
        · rw [h2] at ei
          obtain rfl := Option.some.inj ei
          exact ⟨a, xs, h1, h3, h4⟩
      have lx : xs.length = ds.length := hall.length
      refine iteF ⟨(by show 0 ≤ sizeLine; decide), fun D nd => fun st ns => ?_⟩
      have sd := same_new (o := .lst []) nd
      have ss := same_new (o := .dK []) ns
      have dH : H D = none := none_of s1 nd
      have stH : H st = none := none_of (s1.trans sd) ns
      have dst : D ≠ st := fun z => by
        rw [← z, upd_same] at ns
        cases ns
      have S0 := (s1.trans sd).trans ss
      have hd0 : upd (upd H1 D (.lst [])) st (.dK []) D = some (.lst []) := ss _ _ upd_same
      have hst0 : upd (upd H1 D (.lst [])) st (.dK []) st = some (.dK []) := upd_same
      generalize upd (upd H1 D (.lst [])) st (.dK []) = H2 at S0 hd0 hst0 ⊢
      refine enumS_go rfl hsq S0 fun J Gd W hG => ?_
      refine for_it W (fun i σ H4 => ∃ (w3 w4 w5 : Option V) (ys : List V) (qs : List Pk), σ = [some (.ref l), some (.ref D), some (.ref st), w3, w4, w5] ∧ Same H H4 ∧ H4 D = some (.lst ys) ∧ H4 st = some (.dK (stoodD (qs.map (·.1)))) ∧ PySem.W.EachIs (PieceG H4) ys qs ∧ PySem.W.EachIs GoodP (ds.take i) qs ∧ (qs.map (·.1)).Nodup)
        ⟨none, none, none, [], [], rfl, S0, hd0, hst0, .nil, .nil, List.nodup_nil⟩ (fun i σ H4 _ ⟨_, _, _, _, _, _, s4, _⟩ => hG H4 s4) ?_ ?_
      · rintro i x σ H4 H4' hi ⟨w3, w4, w5, ys, qs, rfl, s4, hd4, hs4, hys, hgood, hnod⟩ ⟨TT, y1, y2, rfl, hT, rfl, hy1, hy2⟩
        cases hy1
        have hy2 : xs[i]? = some y2 := hy2
        obtain ⟨dd, hdd, hp⟩ := eachs_get hall hy2
        have sT := same_new (o := .tup [V.int (i : Nat), y2]) hT
        have hT5 : upd H4 TT (.tup [V.int (i : Nat), y2]) TT = some (.tup [V.int (i : Nat), y2]) := upd_same
        generalize upd H4 TT (.tup [V.int (i : Nat), y2]) = H5 at sT hT5 ⊢
        have s5 := s4.trans sT
        have lq : qs.length ≤ i := by
          have := hgood.length
          rw [List.length_take] at this
          omega
        refine ⟨TT, _, rfl, SqT.of hT5, rfl, _, _, rfl, _, _, rfl, rfl, ?_⟩
        refine ⟨_, rfl, y2, dd, rfl, th_same s5 hp, okd dd (List.mem_of_getElem? hdd), fun v6 H6 s6 hv6 => ?_⟩
        have hd6 := s6 _ _ (sT _ _ hd4)
        have hs6 := s6 _ _ (sT _ _ hs4)
        have s06 := s5.trans s6
        cases er : readPc dd with
        | none =>
          rw [er] at hv6
          obtain rfl : v6 = .non := hv6
          exact ⟨_, rfl, rfl, true, by decide, iteT (iteT ⟨_, rfl, err_go fun dx hdx => qe i ⟨dd, qs, hdd, hgood, hnod, .inl er⟩ H6 dx s06 hdx⟩)⟩
        | some pk =>
          rw [er] at hv6
          obtain ⟨a6, b6, ws6, rfl, ha6, hb6, hw6⟩ := id hv6
          refine ⟨_, rfl, rfl, false, by simp, ?_⟩
          refine iteF ⟨_, rfl, a6, _, _, _, rfl, rfl, SqT.of ha6, at_of (i := 0) rfl, _, rfl, st, _, rfl, DGet.k (k := .inr pk.1) hs6, _, rfl, ?_⟩
          rw [stood_val]
          by_cases nin : pk.1 ∈ qs.map (·.1)
          · rw [decide_eq_true nin]
            exact iteT ⟨_, rfl, err_go fun dx hdx => qe i ⟨dd, qs, hdd, hgood, hnod, .inr ⟨pk, er, nin⟩⟩ H6 dx s06 hdx⟩
          · rw [decide_eq_false nin]
            refine iteF ⟨_, rfl, _, rfl, a6, _, _, _, rfl, rfl, SqT.of ha6, at_of (i := 0) rfl, st, _, rfl, DPut.k (k := .inr pk.1) hs6 (small1000 (by unfold stoodD; rw [List.length_map, List.length_map]; omega)), ?_⟩
            rw [stood_put _ nin]
            have ts1 : TupS H6 (upd H6 st (.dK (stoodD (qs.map (·.1) ++ [pk.1])))) := TupS.put hs6 (by intro xs z; cases z)
            have hd7 : upd H6 st (.dK (stoodD (qs.map (·.1) ++ [pk.1]))) D = some (.lst ys) := by rw [upd_ne dst]; exact hd6
            have hs7 : upd H6 st (.dK (stoodD (qs.map (·.1) ++ [pk.1]))) st = some (.dK (stoodD (qs.map (·.1) ++ [pk.1]))) := upd_same
            have k7 : ∀ b x, b ≠ st → H6 b = some x → upd H6 st (.dK (stoodD (qs.map (·.1) ++ [pk.1]))) b = some x := fun b x hb e => by rw [upd_ne hb]; exact e
            generalize upd H6 st (.dK (stoodD (qs.map (·.1) ++ [pk.1]))) = H7 at ts1 hd7 hs7 k7 ⊢
            have ts2 : TupS H7 (upd H7 D (.lst (ys ++ [.ref a6]))) := TupS.put hd7 (by intro xs z; cases z)
            have ly := hys.length
            refine ⟨_, rfl, .inl ⟨rfl, _, SqL.of hd7⟩, _, rfl, D, ys, .ref a6, rfl, rfl, hd7, small1000 (by omega), ?_⟩
            refine ⟨_, _, _, ys ++ [.ref a6], qs ++ [pk], rfl, fun b x e => ?_, upd_same, ?_, ?_, ?_, ?_⟩
            · rw [upd_ne (ne_of_none e dH)]
              exact k7 _ _ (ne_of_none e stH) (s06 _ _ e)
            · rw [upd_ne dst.symm, hs7, List.map_append]
              rfl
            · exact eachs_snoc (R := PieceG _) (pieceG_s (ts1.trans ts2) hv6) (eachs_imp (fun _ _ => pieceG_s (((TupS.of (sT.trans s6)).trans ts1).trans ts2)) hys)
            · rw [List.take_add_one, hdd]
              exact eachs_snoc (R := GoodP) er hgood
            · rw [List.map_append]
              exact List.nodup_append.mpr ⟨hnod, by simp, fun a ha b hb e => by
                have : b = pk.1 := by simpa using hb
                exact nin (this ▸ e ▸ ha)⟩
      · rintro σ H4 ⟨w3, w4, w5, ys, qs, rfl, s4, hd4, hs4, hys, hgood, hnod⟩
        rw [lx, List.take_length] at hgood
        exact ⟨_, rfl, q qs hgood hnod D ys H4 s4 dH hd4 hys⟩
end
end DR

namespace DR
open PySem PySem.Spec PyProof.Rows L2
/-! ### the words and the kinds of pieces -/
theorem wk_it {J : It} {n : Nat} {G : Hp → Prop} {Y : Nat → Hp → V → Hp → Prop} (w : Walk J n G Y) {T : (Hp → Prop) → V → Hp → Prop} {H0 : Hp} {Qd : Hp → Prop} (Pv : Nat → Hp → Prop) (zero : Pv 0 H0) (stand : ∀ i H, i ≤ n → Pv i H → G H)
    (turn : ∀ i x H H', i < n → Pv i H → Y i H x H' → T (Pv (i + 1)) x H') (last : ∀ H, Pv n H → Qd H) :
    ∃ W : Nat → Nat → Hp → Prop, (∃ m, W 0 m H0) ∧ ∀ j m Hb, W j m Hb → (J.stop j Hb ∧ Qd Hb) ∨ (J.go j Hb ∧ ∃ Nx : Hp → Prop, (∀ Hc, Nx Hc → ∃ n', n' < m ∧ W (j + 1) n' Hc) ∧ ∀ x Hc, J.yld j Hb x Hc → T Nx x Hc) := by
  refine ⟨fun j m Hb => m = n - j ∧ j ≤ n ∧ Pv j Hb, ⟨n, rfl, Nat.zero_le _, zero⟩, ?_⟩
  rintro j m Hb ⟨rfl, le, p⟩
  have q := stand j Hb le p
  rcases Nat.lt_or_eq_of_le le with lt | rfl
  · exact .inr ⟨w.goes j Hb lt q, Pv (j + 1), fun Hc p' => ⟨n - (j + 1), by omega, rfl, lt, p'⟩, fun x Hc y => turn j x Hb Hc lt p (w.yields j Hb x Hc lt q y)⟩
  · exact .inl ⟨w.stops Hb q, last Hb p⟩
/-- an address and its word -/
abbrev Adr := Str × Nat × (Int × Mul)
def adrK (a : Adr) : List Key := [.inr a.1, .inl (a.2.1 : Nat)]
def adrsP (q : Pk) : List Adr := q.2.2.zipIdx.map fun wk => (q.1, wk.2, wk.1)
def adrs (qs : List Pk) : List Adr := qs.flatMap adrsP
structure PkOk (qs : List Pk) : Prop where
  nod : (qs.map (·.1)).Nodup
  few : qs.length ≤ 10
  wd : ∀ q ∈ qs, q.2.2.length ≤ 10
  nm : ∀ q ∈ qs, ∀ w ∈ q.2.2, ∀ u ∈ w.2.map (·.1), NmU u
def AdrV (H : Hp) (e : List Key × V) (a : Adr) : Prop := e.1 = adrK a ∧ SumP H e.2 a.2.2
theorem adrV_s {H H' : Hp} (e : TupS H H') {x : List Key × V} {a : Adr} (h : AdrV H x a) : AdrV H' x a := ⟨h.1, sumT_s e h.2⟩
theorem adrsP_len (q : Pk) : (adrsP q).length = q.2.2.length := by
  unfold adrsP
  rw [List.length_map, List.length_zipIdx]
theorem adrsP_at {q : Pk} {j : Nat} {w : Int × Mul} (h : q.2.2[j]? = some w) : (adrsP q)[j]? = some (q.1, j, w) := by
  unfold adrsP
  rw [List.getElem?_map, List.getElem?_zipIdx, h]
  simp
theorem adrsP_nm {q : Pk} {a : Adr} (h : a ∈ adrsP q) : a.1 = q.1 := by
  unfold adrsP at h
  obtain ⟨x, _, rfl⟩ := List.mem_map.mp h
  rfl
theorem adrsP_take {q : Pk} {j : Nat} {a : Adr} (h : a ∈ (adrsP q).take j) : a.2.1 < j := by
  obtain ⟨i, hi, e⟩ := List.mem_iff_getElem.mp h
  rw [List.length_take] at hi
  have hi2 : i < (adrsP q).length := by omega
  have hq : i < q.2.2.length := by rw [← adrsP_len]; exact hi2
  have e2 := adrsP_at (q := q) (List.getElem?_eq_getElem hq)
  rw [List.getElem_take] at e
  rw [List.getElem?_eq_getElem hi2, e] at e2
  rw [Option.some.inj e2]
  show i < j
  omega
theorem adrs_nm {qs : List Pk} {a : Adr} (h : a ∈ adrs qs) : a.1 ∈ qs.map (·.1) := by
  obtain ⟨q, hq, ha⟩ := List.mem_flatMap.mp h
  exact List.mem_map.mpr ⟨q, hq, (adrsP_nm ha).symm⟩
theorem adrs_le {n : Nat} : ∀ (qs : List Pk), (∀ q ∈ qs, q.2.2.length ≤ n) → (adrs qs).length ≤ n * qs.length
  | [], _ => Nat.zero_le _
  | q :: r, h => by
    unfold adrs
    rw [List.flatMap_cons, List.length_append, adrsP_len, List.length_cons]
    have h1 : (adrs r).length ≤ n * r.length := adrs_le r fun x hx => h x (List.mem_cons_of_mem _ hx)
    have h2 := h q (List.mem_cons_self ..)
    unfold adrs at h1
    rw [Nat.mul_succ]
    omega
theorem putK_new {l : List (List Key × V)} {u : List Key} (v : V) (h : u ∉ l.map (·.1)) : putK l u v = l ++ [(u, v)] := by
  unfold putK
  rw [if_neg]
  intro z
  obtain ⟨p, hp, e⟩ := List.any_eq_true.mp z
  exact h (List.mem_map.mpr ⟨p, hp, of_decide_eq_true e⟩)
theorem adrV_keys {H : Hp} : ∀ {ks : List (List Key × V)} {as : List Adr}, PySem.W.EachIs (AdrV H) ks as → ks.map (·.1) = as.map adrK
  | _, _, .nil => rfl
  | _, _, .cons h t => by rw [List.map_cons, List.map_cons, h.1, adrV_keys t]
def spWords (K : PySem.W.Frag) : Sp := fun vs H Q _ => ∃ (a : Addr) (xs : List V) (qs : List Pk), vs = [.ref a] ∧ H a = some (.tup xs) ∧ PySem.W.EachIs (PieceG H) xs qs ∧ PkOk qs ∧
  ∀ D ks H', Same H H' → H D = none → H' D = some (.dT ks) → PySem.W.EachIs (AdrV H') ks (adrs qs) → Q (.ref D) H'
abbrev sWords : Stmt := topS 22
theorem scWords : FnScope ["pieces", "p", "_", "words", "k", "word"] ["pieces"] (defScope sWords) := ⟨rfl, rfl, rfl, by decide +kernel, rfl, by decide +kernel, by decide +kernel⟩
abbrev sKinds : Stmt := topS 24
theorem scKinds : FnScope ["pieces", "p", "kind", "_"] ["pieces"] (defScope sKinds) := ⟨rfl, rfl, rfl, by decide +kernel, rfl, by decide +kernel, by decide +kernel⟩
def kindD (qs : List Pk) : List (Key × V) := qs.map fun q => (.inr q.1, V.str q.2.1)
theorem kind_val (qs : List Pk) (z : Str) : valV (kindD qs) (.inr z) = (qs.find? fun q => decide (q.1 = z)).map fun q => V.str q.2.1 := by
  unfold valV kindD
  induction qs with
  | nil => rfl
  | cons y qs ih =>
    rw [List.map_cons]
    by_cases c : y.1 = z
    · rw [List.find?_cons_of_pos (by simp [c]), List.find?_cons_of_pos (by simp [c])]
      rfl
    · rw [List.find?_cons_of_neg (by simp [c]), List.find?_cons_of_neg (by simp [c])]
      exact ih
theorem kind_put (qs : List Pk) {q : Pk} (h : q.1 ∉ qs.map (·.1)) : putK (kindD qs) (.inr q.1) (.str q.2.1) = kindD (qs ++ [q]) := by
  unfold putK kindD
  rw [if_neg]
  · rw [List.map_append]
    rfl
  · intro c
    obtain ⟨p, hp, e⟩ := List.any_eq_true.mp c
    obtain ⟨y, hy, rfl⟩ := List.mem_map.mp hp
    have : y.1 = q.1 := Sum.inr.inj (of_decide_eq_true e)
    exact h (List.mem_map.mpr ⟨y, hy, this⟩)
def spKinds (K : PySem.W.Frag) : Sp := fun vs H Q _ => ∃ (a : Addr) (xs : List V) (qs : List Pk), vs = [.ref a] ∧ H a = some (.tup xs) ∧ PySem.W.EachIs (PieceG H) xs qs ∧ PkOk qs ∧
  ∀ D H', Same H H' → H D = none → H' D = some (.dK (kindD qs)) → Q (.ref D) H'
section
variable {P : Program} {w : World} {K : PySem.W.Frag} {mg : Str → Option Value} {base : Heap}
theorem ok_words {f : Addr} {fd : FuncData} (F : Fun K "words_of" "words_of" sWords f fd) (T : Bi mg) : FnOk P w K mg base CX0 1 f fd ["pieces"] (spWords K) := by
  refine F.ok scWords (fun vs H Q E h => ?_) (fun cdv A outer s H vs Q E hr h => ?_)
  · obtain ⟨a, xs, qs, rfl, _⟩ := h
    rfl
  · obtain ⟨a, xs, qs, rfl, ha, hxs, ok, q⟩ := h
    have hu := hu_of hr
    refine ⟨_, (pss_one (ps_ret (pe_dt2 (own := [("p", 1), ("_", 2), ("words", 3), ("k", 4), ("word", 5)]) (vs1 := [4, 5]) (g := gTup K 3 (gCons (gName 1) (gCons (gName 2) (gCons (gName 3) gNil)))) (g1 := gTup K 2 (gCons (gName 4) (gCons (gName 5) gNil))) (tt := tYes) (tt1 := tYes) (wi1 := iEnumT K (tCons (tVar 3) tNil)) (tk := tTup (tCons (tVar 1) (tCons (tVar 4) tNil))) (tv := tVar 5) hu rfl scWords.nd (pi_tup (pv 0)) (blkOk_by (N := ["pieces", "p", "_", "words", "k", "word"]) (sc := defScope sWords) (by decide +kernel)) (by decide +kernel)
      (fun _ _ _ _ _ => pg_tup rfl (pgs_cons (pg_name (i := 1) scWords.nd rfl (.inl rfl)) (pgs_cons (pg_name (i := 2) scWords.nd rfl (.inl rfl)) (pgs_cons (pg_name (i := 3) scWords.nd rfl (.inl rfl)) pgs_nil)))) (fun _ _ _ _ _ => pts_nil)
      (fun _ _ _ _ _ => pi_enumT (by rfl) T.enumerate (pa_cons (pv 3) pa_nil))
      (fun _ _ _ _ _ => pg_tup rfl (pgs_cons (pg_name (i := 4) scWords.nd rfl (.inl rfl)) (pgs_cons (pg_name (i := 5) scWords.nd rfl (.inl rfl)) pgs_nil))) (fun _ _ _ _ _ => pts_nil)
      (fun _ _ _ _ _ => pe_tup (pa_cons (pv 1) (pa_cons (pv 4) pa_nil))) (fun _ _ _ _ _ => pv 5)))), ?_⟩
    have lx : xs.length = qs.length := hxs.length
    have few := ok.few
    refine ⟨_, rfl, a, rfl, ⟨xs, SqT.of ha⟩, fun D hD => ?_⟩
    refine wk_it (walk_tup (xs := xs)) (fun i H4 => (∀ c o, c ≠ D → H c = some o → H4 c = some o) ∧ ∃ ks, H4 D = some (.dT ks) ∧ PySem.W.EachIs (AdrV H4) ks (adrs (qs.take i)))
      ⟨fun c o hc e => by rw [upd_ne hc]; exact e, [], upd_same, .nil⟩ (fun i H4 _ ⟨kp, _⟩ => SqT.of (kp _ _ (ne_of_none ha hD) ha)) ?_ ?_
    · rintro i x H4 H4' hi ⟨kp, ks, hD4, hks⟩ ⟨rfl, hx⟩
      obtain ⟨pc, hpc, hp⟩ := eachs_get hxs hx
      have i2 : i < qs.length := (List.getElem?_eq_some_iff.mp hpc).1
      have pfew := ok.wd pc (List.mem_of_getElem? hpc)
      have s4 : Same H H4' := fun c o e => kp c o (ne_of_none e hD) e
      obtain ⟨t, b, ws, rfl, ht, hb, hws⟩ := pieceG_s (TupS.of s4) hp
      have lw : ws.length = pc.2.2.length := hws.length
      have nin : pc.1 ∉ (qs.take i).map (·.1) := by
        rw [List.map_take]
        exact take_not ok.nod (by rw [List.getElem?_map, hpc]; rfl)
      refine ⟨t, _, rfl, SqT.of ht, rfl, _, _, rfl, _, _, rfl, _, _, rfl, rfl, rfl, yes_go ?_⟩
      refine ⟨_, rfl, b, ws, rfl, SqT.of hb, ?_⟩
      refine wk_it walk_enumT (fun j H5 => (∀ c o, c ≠ D → H4' c = some o → H5 c = some o) ∧ ∃ ks', H5 D = some (.dT ks') ∧ PySem.W.EachIs (AdrV H5) ks' (adrs (qs.take i) ++ (adrsP pc).take j))
        ⟨fun _ _ _ e => e, ks, hD4, by rw [List.take_zero, List.append_nil]; exact hks⟩ (fun j H5 _ ⟨kp5, _⟩ => SqT.of (kp5 _ _ (ne_of hb hD4 (by intro z; cases z)) hb)) ?_ ?_
      · rintro j y H5 H5' hj ⟨kp5, ks', hD5, hks5⟩ ⟨TT, y1, y2, rfl, hT, rfl, hy1, hy2⟩
        cases hy1
        have hy2 : ws[j]? = some y2 := hy2
        obtain ⟨wd, hwd, hsum⟩ := eachs_get hws hy2
        have j2 : j < pc.2.2.length := (List.getElem?_eq_some_iff.mp hwd).1
        have sT := same_new (o := .tup [V.int (j : Nat), y2]) hT
        have hT6 : upd H5 TT (.tup [V.int (j : Nat), y2]) TT = some (.tup [V.int (j : Nat), y2]) := upd_same
        generalize upd H5 TT (.tup [V.int (j : Nat), y2]) = H6 at sT hT6 ⊢
        have ts : TupS H4' H6 := fun c l e => sT _ _ (kp5 c _ (ne_of e hD4 (by intro z; cases z)) e)
        have lks : ks'.length ≤ 110 := by
          rw [hks5.length, List.length_append, List.length_take]
          have b := adrs_le (n := 10) (qs.take i) fun q hq => ok.wd q (List.mem_of_mem_take hq)
          rw [List.length_take] at b
          omega
        have kin : adrK (pc.1, j, wd) ∉ ks'.map (·.1) := by
          rw [adrV_keys hks5, List.mem_map]
          rintro ⟨x, hx, e⟩
          have e1 : x.1 = pc.1 := by
            have := congrArg (fun z : List Key => z[0]?) e
            simpa [adrK] using this
          have e2 : x.2.1 = j := by
            have e0 := congrArg (fun z : List Key => z[1]?) e
            have e0 : ((x.2.1 : Nat) : Int) = (j : Int) := by simpa [adrK] using e0
            omega
          rcases List.mem_append.mp hx with hx | hx
          · exact nin (e1 ▸ adrs_nm hx)
          · have := adrsP_take hx
            omega
        refine ⟨TT, _, rfl, SqT.of hT6, rfl, _, _, rfl, _, _, rfl, rfl, rfl, yes_go ?_⟩
        refine ⟨_, rfl, _, rfl, (by show 2 ≤ sizeLine; decide), fun p7 n7 => ⟨_, rfl, _, ⟨ks', adrK (pc.1, j, wd), p7, ?_, rfl, upd_same, small1000 (by omega), rfl⟩, ?_⟩⟩
        · have s7 := same_new (o := .tup [V.str pc.1, V.int (j : Nat)]) n7
          exact s7 _ _ (sT _ _ hD5)
        · have s7 := same_new (o := .tup [V.str pc.1, V.int (j : Nat)]) n7
          have hD7 := s7 _ _ (sT _ _ hD5)
          rw [putK_new y2 kin]
          have ts8 : TupS _ (upd (upd H6 p7 (.tup [V.str pc.1, V.int (j : Nat)])) D (.dT (ks' ++ [(adrK (pc.1, j, wd), y2)]))) := TupS.put hD7 (by intro xs z; cases z)
          have all : TupS H5 (upd (upd H6 p7 (.tup [V.str pc.1, V.int (j : Nat)])) D (.dT (ks' ++ [(adrK (pc.1, j, wd), y2)]))) := (TupS.of (sT.trans s7)).trans ts8
          refine ⟨fun c o hc e => by rw [upd_ne hc]; exact s7 _ _ (sT _ _ (kp5 c o hc e)), _, upd_same, ?_⟩
          rw [List.take_add_one, adrsP_at hwd, ← List.append_assoc]
          exact eachs_snoc (R := AdrV _) ⟨rfl, sumT_s (ts.trans ((TupS.of s7).trans ts8)) hsum⟩ (eachs_imp (fun _ _ => adrV_s all) hks5)
      · rintro H5 ⟨kp5, ks', hD5, hks5⟩
        refine ⟨fun c o hc e => kp5 c o hc (kp c o hc e), ks', hD5, ?_⟩
        have le : (adrsP pc).length = ws.length := by rw [adrsP_len, lw]
        rw [List.take_of_length_le (Nat.le_of_eq le)] at hks5
        have e : adrs (qs.take (i + 1)) = adrs (qs.take i) ++ adrsP pc := by
          unfold adrs
          rw [List.take_add_one, hpc, List.flatMap_append]
          simp
        rw [e]
        exact hks5
    · rintro H4 ⟨kp, ks, hD4, hks⟩
      rw [lx, List.take_length] at hks
      exact q D ks H4 (fun c o e => kp c o (ne_of_none e hD) e) hD hD4 hks
theorem ok_kinds {f : Addr} {fd : FuncData} (F : Fun K "kinds_of" "kinds_of" sKinds f fd) (T : Bi mg) : FnOk P w K mg base CX0 1 f fd ["pieces"] (spKinds K) := by
  refine F.ok scKinds (fun vs H Q E h => ?_) (fun cdv A outer s H vs Q E hr h => ?_)
  · obtain ⟨a, xs, qs, rfl, _⟩ := h
    rfl
  · obtain ⟨a, xs, qs, rfl, ha, hxs, ok, q⟩ := h
    have hu := hu_of hr
    refine ⟨_, (pss_one (ps_ret (pe_dc (own := [("p", 1), ("kind", 2), ("_", 3)]) (g := gTup K 3 (gCons (gName 1) (gCons (gName 2) (gCons (gName 3) gNil)))) (tt := tYes) (tk := tVar 1) (tv := tVar 2) rfl scKinds.nd (pi_tup (pv 0)) (blkOk_by (N := ["pieces", "p", "kind", "_"]) (sc := defScope sKinds) (by decide +kernel))
      (fun _ _ _ _ _ => pg_tup rfl (pgs_cons (pg_name (i := 1) scKinds.nd rfl (.inl rfl)) (pgs_cons (pg_name (i := 2) scKinds.nd rfl (.inl rfl)) (pgs_cons (pg_name (i := 3) scKinds.nd rfl (.inl rfl)) pgs_nil)))) (fun _ _ _ _ _ => pts_nil) (fun _ _ _ _ _ => pv 1) (fun _ _ _ _ _ => pv 2)))), ?_⟩
    have lx : xs.length = qs.length := hxs.length
    have few := ok.few
    refine ⟨_, rfl, a, rfl, ⟨xs, SqT.of ha⟩, fun D hD => ?_⟩
    refine dc_it (walk_tup (xs := xs)) (fun i H4 => (∀ c o, c ≠ D → H c = some o → H4 c = some o) ∧ H4 D = some (.dK (kindD (qs.take i))))
      ⟨fun c o hc e => by rw [upd_ne hc]; exact e, upd_same⟩ (fun i H4 _ ⟨kp, _⟩ => SqT.of (kp _ _ (ne_of_none ha hD) ha)) ?_ ?_
    · rintro i x H4 H4' hi ⟨kp, hD4⟩ ⟨rfl, hx⟩
      obtain ⟨pc, hpc, hp⟩ := eachs_get hxs hx
      have i2 : i < qs.length := (List.getElem?_eq_some_iff.mp hpc).1
      have s4 : Same H H4' := fun c o e => kp c o (ne_of_none e hD) e
      obtain ⟨t, b, ws, rfl, ht, hb, hws⟩ := pieceG_s (TupS.of s4) hp
      have nin : pc.1 ∉ (qs.take i).map (·.1) := by
        rw [List.map_take]
        exact take_not ok.nod (by rw [List.getElem?_map, hpc]; rfl)
      refine ⟨t, _, rfl, SqT.of ht, rfl, _, _, rfl, _, _, rfl, _, _, rfl, rfl, rfl, yes_go ?_⟩
      refine ⟨_, rfl, _, rfl, _, .inr pc.1, rfl, hD4, small1000 (by unfold kindD; rw [List.length_map, List.length_take]; omega), fun c o hc e => by rw [upd_ne hc]; exact kp c o hc e, ?_⟩
      rw [upd_same, kind_put _ nin, List.take_add_one, hpc]
      rfl
    · rintro H4 ⟨kp, hD4⟩
      rw [lx, List.take_length] at hD4
      exact q D H4 (fun c o e => kp c o (ne_of_none e hD) e) hD hD4
end
end DR

namespace DR
open PySem PySem.Spec PyProof.Rows L2
/-! ### own errors of two fields -/
/-- self.f as a target -/
def gOst (K : PySem.W.Frag) (f : Str) (to : TE) : TG := fun y σ H Q => to σ H fun x H2 => ∃ a C : Addr, x = .ref a ∧ OexC K C ∧ PySem.W.findIn K (.ref C) f = some none ∧
  ((H2 a = some (exo a C none) ∧ ∀ dx, H2 dx = none → dx ≠ a → Q σ (upd (upd H2 dx (exd dx [(f, y)])) a (exo a C (some dx)))) ∨
    ∃ (dx : Addr) (fs : List (Str × V)), H2 a = some (exo a C (some dx)) ∧ H2 dx = some (exd dx fs) ∧ fs.length ≤ 900 ∧ Q σ (upd H2 dx (exd dx ((f, y) :: fs))))
theorem pg_ost {X : Cx} {o : Expr} {to : TE} {f : Str} {p : Pos} (ho : PE X o to) : PG X (.Attribute o f p) (gOst X.K f to) := by
  refine ⟨fun pins s σ H v u Q I r h => ?_⟩
  refine PySem.W.kas_attr (thn (ho.run pins s σ H _ I h) fun u1 s2 ⟨x, H2, I2, r2, a, C, ex, T, hno, q⟩ => ?_)
  subst ex
  obtain rfl : u1 = Value.ref a := r2
  rcases q with ⟨ea, q⟩ | ⟨dx, fs, ea, ed, hl, q⟩
  · exact ost_new T I2 ea hno r fun dx s' n ne J => ⟨σ, _, J, q dx n ne⟩
  · exact ost_old T I2 ea ed hl hno r fun s' J => ⟨σ, _, J, q⟩
/-- __init__ stores its arguments under f and g -/
def spErrInit2 (K : PySem.W.Frag) (C : Addr) (f g : Str) : Sp := fun vs H Q _ => ∃ a y z, vs = [.ref a, y, z] ∧ H a = some (exo a C none) ∧ ∀ tp dx, H tp = none → upd H tp (.tup [y, z]) dx = none → dx ≠ a →
  Q .non (upd (upd (upd (upd H tp (.tup [y, z])) dx (exd dx [(f, y)])) a (exo a C (some dx))) dx (exd dx [(g, z), (f, y)]))
structure Err2 (P : Program) (w : World) (K : PySem.W.Frag) (mg : Str → Option Value) (base : Heap) (x : Str) (C : Addr) (f g : Str) : Prop where
  at_ : mg x = some (.ref C)
  T : OexC K C
  no : PySem.W.findIn K (.ref C) f = some none
  no2 : PySem.W.findIn K (.ref C) g = some none
  xf : XfC K C
  te : PySem.W.exmOne K (.ref C) (.ref C) = some true
  ini : ∃ (fI : Addr) (fd : FuncData) (p2 p3 : Str), PySem.W.findIn K (.ref C) "__init__" = some (some (.ref fI)) ∧ PySem.W.typeIn K (.ref fI) = some (.type "function") ∧ Binds K fd ["self", p2, p3] [] ∧ FnOk P w K mg base CX0 1 fI fd ["self", p2, p3] (spErrInit2 K C f g)
theorem err_go2 {K : PySem.W.Frag} {C : Addr} {f g : Str} {y z : V} {H1 : Hp} {Q : XK} (q : ∀ tp dx, H1 tp = none → upd H1 tp (.tup [y, z]) dx = none → Q (.ref C) (some dx) (upd (upd H1 tp (.tup [y, z])) dx (.xd [(g, z), (f, y)]))) :
    [y, z].length ≤ 1000 ∧ ∀ a, H1 a = none → spErrInit2 K C f g (.ref a :: ([y, z] ++ [])) (upd H1 a (exo a C none)) (fun v H2 => v = .non ∧ ∃ (d : Addr) (fs : List (Str × V)), H2 a = some (exo a C (some d)) ∧ H2 d = some (exd d fs) ∧ H1 d = none ∧ Q (.ref C) (some d) (upd (del H2 a) d (.xd fs))) (fun _ _ _ => False) := by
  refine ⟨(by show 2 ≤ 1000; decide), fun a ha => ⟨a, y, z, rfl, upd_same, fun tp dx htp hdx hne => ⟨rfl, dx, [(g, z), (f, y)], ?_, upd_same, ?_, ?_⟩⟩⟩
  · rw [upd_ne (Ne.symm hne), upd_same]
  · have h1 : dx ≠ tp := fun e => by rw [e, upd_same] at hdx; cases hdx
    rw [upd_ne h1, upd_ne hne] at hdx
    exact hdx
  · have ta : tp ≠ a := fun e => by rw [e, upd_same] at htp; cases htp
    have h1 : dx ≠ tp := fun e => by rw [e, upd_same] at hdx; cases hdx
    have h2 : H1 tp = none := by
      rw [upd_ne ta] at htp
      exact htp
    have h3 : upd H1 tp (.tup [y, z]) dx = none := by
      rw [upd_ne h1, upd_ne hne] at hdx
      rw [upd_ne h1]
      exact hdx
    have e : upd (del (upd (upd (upd (upd (upd H1 a (exo a C none)) tp (.tup [y, z])) dx (exd dx [(f, y)])) a (exo a C (some dx))) dx (exd dx [(g, z), (f, y)])) a) dx (.xd [(g, z), (f, y)]) = upd (upd H1 tp (.tup [y, z])) dx (.xd [(g, z), (f, y)]) := by
      funext b
      by_cases hb : b = dx
      · rw [hb, upd_same, upd_same]
      · rw [upd_ne hb, upd_ne hb]
        by_cases hb2 : b = a
        · rw [hb2, del_same, upd_ne ta.symm, ha]
        · rw [del_ne hb2, upd_ne hb, upd_ne hb2, upd_ne hb]
          by_cases hb3 : b = tp
          · rw [hb3, upd_same, upd_same]
          · rw [upd_ne hb3, upd_ne hb2, upd_ne hb3]
    rw [e]
    exact q tp dx h2 h3
def tRaise2 (K : PySem.W.Frag) (C : Addr) (f g : Str) (te tu : TE) (W : WX) : TS := fun _ σ H => tMkO C (spErrInit2 K C f g) [] (tCons te (tCons tu tNil)) σ H fun cls d H' => W cls d σ H'
theorem ps_err2 {X : Cx} {W : WX} {x f g : Str} {C : Addr} {e e' : Expr} {te tu : TE} {p pos pos2 : Pos} {k : Nat} (hc : X.calm = true) (tk : Takes X W) (T : Err2 X.prog X.w X.K X.mg X.base x C f g) (hr : Room k X.A) (h2 : 2 ≤ k) (he : PE X e te) (hu : PE X e' tu) (hg : Gl X x := by rfl)
    (hdb : (x == ("__debug__" : Str)) = false := by decide) (hs : starEach (e :: [e']) X.env = (false, eval e X.env) :: starEach [e'] X.env := by rfl) (hs2 : starEach (e' :: []) X.env = (false, eval e' X.env) :: starEach [] X.env := by rfl) (hpl : (backTo pos (starEach [e'] X.env)).any (·.1) = false := by rfl) :
    PS X (.Raise (some (.Call (.Name x p) [e, e'] [] pos)) none pos2) (tRaise2 X.K C f g te tu W) := by
  obtain ⟨fI, fd, p2, p3, iC, tI, hb, F⟩ := T.ini
  exact ps_raise (pos := pos2) hc tk (pmk_oex (p := p) (pos := pos) T.T iC tI F (hr.mono h2) hb .nil pass0 hg T.at_ (pa_cons he (pa_cons hu pa_nil hs2) hs) hdb hs hpl)
end DR

namespace DR
open PySem PySem.Spec PyProof.Rows L2
/-! ### words are looked at -/
theorem find_at {α : Type} {l : List α} {p : α → Bool} {i : Nat} {a : α} (h : (l.take i).find? p = none) (ha : l[i]? = some a) (hp : p a = true) : l.find? p = some a := by
  have e : l = l.take i ++ (a :: l.drop (i + 1)) := by
    have hi := (List.getElem?_eq_some_iff.mp ha).1
    have : l[i] = a := (List.getElem?_eq_some_iff.mp ha).2
    rw [← this, ← List.drop_eq_getElem_cons hi, List.take_append_drop]
  rw [e, List.find?_append, h, Option.none_or, List.find?_cons_of_pos hp]
theorem find_step {α : Type} {l : List α} {p : α → Bool} {i : Nat} {a : α} (h : (l.take i).find? p = none) (ha : l[i]? = some a) (hp : p a = false) : (l.take (i + 1)).find? p = none := by
  rw [List.take_add_one, ha, List.find?_append, h]
  simp [hp]
def ownU (qs : List Pk) (u : List Key) : Bool := match u with
  | [.inr k, o] => decide (k = sPiece) && (valV (kindD qs) o).isSome
  | _ => false
def ownA (qs : List Pk) (a : Adr) : Bool := a.2.2.2.all fun q => ownU qs q.1
/-- the first word with another unknown than the place of a piece -/
def badWord (qs : List Pk) : Option Adr := (adrs qs).find? fun a => !ownA qs a
theorem adrs_nodup {qs : List Pk} (nod : (qs.map (·.1)).Nodup) : (adrs qs).Pairwise fun a b => adrK a ≠ adrK b := by
  unfold adrs
  rw [List.pairwise_flatMap]
  refine ⟨fun q _ => ?_, ?_⟩
  · rw [List.pairwise_iff_getElem]
    intro i j hi hj ij e
    have hi' := hi
    have hj' := hj
    rw [adrsP_len] at hi' hj'
    have ei := adrsP_at (q := q) (List.getElem?_eq_getElem hi')
    have ej := adrsP_at (q := q) (List.getElem?_eq_getElem hj')
    rw [List.getElem?_eq_getElem hi] at ei
    rw [List.getElem?_eq_getElem hj] at ej
    rw [Option.some.inj ei, Option.some.inj ej] at e
    have e0 := congrArg (fun z : List Key => z[1]?) e
    have e0 : ((i : Nat) : Int) = (j : Int) := by simpa [adrK] using e0
    omega
  · have := List.pairwise_map.mp nod
    refine this.imp fun {a b} ne x hx y hy e => ?_
    have e0 := congrArg (fun z : List Key => z[0]?) e
    have e0 : x.1 = y.1 := by simpa [adrK] using e0
    rw [adrsP_nm hx, adrsP_nm hy] at e0
    exact ne e0
theorem val_at : ∀ {ks : List (List Key × V)}, (ks.map (·.1)).Nodup → ∀ {i : Nat} {k : List Key} {v : V}, ks[i]? = some (k, v) → valV ks k = some v
  | e :: ks, nod, 0, k, v, h => by
    have h : e = (k, v) := Option.some.inj h
    subst h
    unfold valV
    rw [List.find?_cons_of_pos (by simp)]
    rfl
  | e :: ks, nod, i + 1, k, v, h => by
    rw [List.map_cons, List.nodup_cons] at nod
    have h : ks[i]? = some (k, v) := h
    have ne : e.1 ≠ k := fun z => nod.1 (z ▸ List.mem_map.mpr ⟨_, List.mem_of_getElem? h, rfl⟩)
    have := val_at nod.2 h
    unfold valV at this ⊢
    rw [List.find?_cons_of_neg (by simp [ne])]
    exact this
theorem ks_nod {H : Hp} {ks : List (List Key × V)} {qs : List Pk} (ok : (qs.map (·.1)).Nodup) (h : PySem.W.EachIs (AdrV H) ks (adrs qs)) : (ks.map (·.1)).Nodup := by
  rw [adrV_keys h]
  exact List.pairwise_map.mpr (adrs_nodup ok)
def spCheckW (K : PySem.W.Frag) (CW : Addr) : Sp := fun vs H Q E => ∃ (D F : Addr) (ks : List (List Key × V)) (qs : List Pk), vs = [.ref D, .ref F] ∧ D ≠ F ∧ H D = some (.dT ks) ∧ PySem.W.EachIs (AdrV H) ks (adrs qs) ∧ PkOk qs ∧ H F = some (.dK (kindD qs)) ∧
  (∀ a, badWord qs = some a → ∀ H' dx, (∀ b x, b ≠ D → H b = some x → H' b = some x) → H' dx = none → E (.ref CW) (some dx) (upd H' dx (.xd [("k", .int (a.2.1 : Nat)), ("p", .str a.1)]))) ∧ (badWord qs = none → ∀ H', Same H H' → Q .non H')
abbrev sCheckW : Stmt := topS 26
theorem scCheckW : FnScope ["sums", "kinds", "p", "k", "kind", "of", "_"] ["sums", "kinds"] (defScope sCheckW) := ⟨rfl, rfl, rfl, by decide +kernel, rfl, by decide +kernel, by decide +kernel⟩
section
variable {P : Program} {w : World} {K : PySem.W.Frag} {mg : Str → Option Value} {base : Heap}
theorem ok_checkW {f CW : Addr} {fd : FuncData} (F : Fun K "check_words" "check_words" sCheckW f fd) (T : Bi mg) (S : Err2 P w K mg base "BadWord" CW "p" "k") : FnOk P w K mg base (L2.CX P w) 5 f fd ["sums", "kinds"] (spCheckW K CW) := by
  refine F.okX scCheckW (fun vs H Q E h => ?_) (fun cdv A outer s H vs Q E hr h => ?_)
  · obtain ⟨D, E, ks, pcs, rfl, _⟩ := h
    rfl
  · obtain ⟨D, E0', ks, qs, rfl, hDE, hD, hks, ok, hE, qe, q⟩ := h
    have hu := hu_of hr
    refine ⟨_, (pss_one (ps_lock (ps_for (passes_of rfl) rfl (pi_keys (pv 0)) (pg_tup rfl (pgs_cons (pg_name (i := 2) scCheckW.nd rfl (.inl rfl)) (pgs_cons (pg_name (i := 3) scCheckW.nd rfl (.inl rfl)) pgs_nil))) (pss_one (ps_for (passes_of rfl) rfl (pi_tup (pe_ix ix_tup (pe_dget hu (pv 0) (pe_tup (pa_cons (pv 2) (pa_cons (pv 3) pa_nil))) (fun _ _ => rfl)) pe_int (fun _ _ => rfl))) (pg_tup rfl (pgs_cons (pg_tup rfl (pgs_cons (pg_name (i := 4) scCheckW.nd rfl (.inl rfl)) (pgs_cons (pg_name (i := 5) scCheckW.nd rfl (.inl rfl)) pgs_nil))) (pgs_cons (pg_name (i := 6) scCheckW.nd rfl (.inl rfl)) pgs_nil))) (pss_one (ps_if (PW.pt (pw_or (pt_cmpR op_ne (pv 4) pe_str (nomark _)) (pw_or1 (pt_cmp (pc_dnotin hu (pv 5) (pv 1)) (by rfl))))) (pss_one (ps_err2 rfl (takes_of rfl rfl rfl rfl) S hr (by decide) (pv 2) (pv 3))) pss_nil))))))), ?_⟩
    have knod := ks_nod ok.nod hks
    have lk : ks.length = (adrs qs).length := hks.length
    refine ⟨D, _, hD, trivial, fun od => ?_⟩
    have ts0 : TupS H (upd H D (.frz od (.dT ks))) := TupS.put hD (by intro xs z; cases z)
    have hD0 : upd H D (.frz od (.dT ks)) D = some (.frz od (.dT ks)) := upd_same
    have kp0 : ∀ b o, b ≠ D → H b = some o → upd H D (.frz od (.dT ks)) b = some o := fun b o hb e => by rw [upd_ne hb]; exact e
    generalize upd H D (.frz od (.dT ks)) = H0 at ts0 hD0 kp0 ⊢
    have hks0 := eachs_imp (fun _ _ => adrV_s ts0) hks
    have hE0 := kp0 _ _ hDE.symm hE
    refine ⟨_, rfl, D, od, rfl, .inr ⟨ks, hD0, ?_⟩⟩
    refine for_it walk_keysT (fun i σ H5 => ∃ (w2 w3 w4 w5 w6 : Option V), σ = [some (.ref D), some (.ref E0'), w2, w3, w4, w5, w6] ∧ Same H0 H5 ∧ ((adrs qs).take i).find? (fun a => !ownA qs a) = none)
      ⟨none, none, none, none, none, rfl, fun _ _ e => e, rfl⟩ (fun i σ H5 _ ⟨_, _, _, _, _, _, s5, _⟩ => s5 _ _ hD0) ?_ ?_
    · rintro i x σ H5 H5' hi ⟨w2, w3, w4, w5, w6, rfl, s5, nb⟩ ⟨rfl, k, v, a, hk, rfl, ha⟩
      obtain ⟨⟨z, n, wd⟩, had, ek, hsum⟩ := eachs_get hks0 hk
      have ek : k = [.inr z, .inl ((n : Nat) : Int)] := ek
      subst ek
      have hsum : SumP H0 v wd := hsum
      refine ⟨a, _, rfl, SqT.of ha, rfl, _, _, rfl, _, _, rfl, rfl, ?_⟩
      refine ⟨_, rfl, _, rfl, _, rfl, (by show 2 ≤ sizeLine; decide), fun p6 n6 => ?_⟩
      have s6 := same_new (o := .tup [kV (.inr z), kV (.inl ((n : Nat) : Int))]) n6
      have hp6 : upd H5' p6 (.tup [kV (.inr z), kV (.inl ((n : Nat) : Int))]) p6 = some (.tup [kV (.inr z), kV (.inl ((n : Nat) : Int))]) := upd_same
      generalize upd H5' p6 (.tup [kV (.inr z), kV (.inl ((n : Nat) : Int))]) = H6 at s6 hp6 ⊢
      have s06 := s5.trans s6
      have hv := val_at knod hk
      obtain ⟨c1, c2, us, e3, hc1, hc2, hus⟩ := sumT_s (TupS.of s06) hsum
      have e3 : v = .ref c1 := e3
      subst e3
      have lu : us.length = wd.2.length := hus.length
      have anm : ∀ u ∈ wd.2.map (·.1), NmU u := by
        obtain ⟨q1, hq1, hm⟩ := List.mem_flatMap.mp (List.mem_of_getElem? had)
        unfold adrsP at hm
        obtain ⟨wk, hwk, e⟩ := List.mem_map.mp hm
        have hw : wk.1 ∈ q1.2.2 := (List.mem_zipIdx hwk).2.2 ▸ List.getElem_mem _
        have e : wk.1 = wd := by
          have := congrArg (fun z : Adr => z.2.2) e
          exact this
        exact ok.nm q1 hq1 wd (e ▸ hw)
      refine ⟨D, _, rfl, .inr ⟨ks, [.inr z, .inl ((n : Nat) : Int)], p6, .inr ⟨od, s06 _ _ hD0⟩, rfl, hp6, hv.symm⟩, c1, _, _, _, rfl, rfl, SqT.of hc1, at_of (i := 1) rfl, c2, rfl, ⟨us, SqT.of hc2⟩, ?_⟩
      refine for_it walk_tup (fun j σ H7 => ∃ (w4 w5 w6 : Option V), σ = [some (.ref D), some (.ref E0'), some (.str z), some (.int ((n : Nat) : Int)), w4, w5, w6] ∧ Same H6 H7 ∧ (wd.2.take j).all (fun q => ownU qs q.1) = true)
        ⟨_, _, _, rfl, fun _ _ e => e, rfl⟩ (fun j σ H7 _ ⟨_, _, _, _, s7, _⟩ => SqT.of (s7 _ _ hc2)) ?_ ?_
      · rintro j y σ H7 H7' hj ⟨w4, w5, w6, rfl, s7, al⟩ ⟨rfl, hy⟩
        obtain ⟨u, m, c, ee, hum, rfl, hc, he⟩ := part_get hus hy
        obtain ⟨kd, o, rfl, hkd, _⟩ := anm u (List.mem_map.mpr ⟨_, List.mem_of_getElem? hum, rfl⟩)
        have hc7 := s7 _ _ hc
        have he7 := s7 _ _ he
        have s07 := s06.trans s7
        have bad : ownU qs [.inr kd, o] = false → ∀ H' dx, Same H7' H' → H' dx = none → E (.ref CW) (some dx) (upd H' dx (.xd [("k", .int ((n : Nat) : Int)), ("p", .str z)])) := fun eo H' dx s' hdx => by
          refine qe (z, n, wd) (find_at nb had ?_) H' dx (fun b x hb e => s' _ _ (s07 _ _ (kp0 _ _ hb e))) hdx
          have : ownA qs (z, n, wd) = false := by
            unfold ownA
            rw [Bool.eq_false_iff]
            intro c
            have := List.all_eq_true.mp c _ (List.mem_of_getElem? hum)
            rw [eo] at this
            cases this
          rw [this]
          rfl
        refine ⟨c, _, rfl, SqT.of hc7, rfl, _, _, rfl, ⟨ee, _, rfl, SqT.of he7, rfl, _, _, rfl, _, _, rfl, rfl, _, _, rfl, rfl, ?_⟩⟩
        refine ⟨_, rfl, rfl, _, rfl, ?_⟩
        show if (!decide (V.str kd = V.str "piece")) = true then _ else _
        by_cases hk2 : kd = sPiece
        · subst hk2
          rw [show (!decide (V.str sPiece = V.str "piece")) = false from by decide +kernel]
          refine iteF ⟨_, rfl, _, rfl, E0', _, rfl, DGet.k (k := o) (s07 _ _ hE0), ?_⟩
          cases ev : (valV (kindD qs) o).isSome with
          | true =>
            refine ⟨false, rfl, ?_⟩
            show ∃ (w4 w5 w6 : Option V), _ ∧ _
            refine ⟨_, _, _, rfl, s7, ?_⟩
            rw [List.take_add_one, hum, List.all_append, al]
            show (true && (ownU qs [.inr sPiece, o] && true)) = true
            show (true && ((decide (sPiece = sPiece) && (valV (kindD qs) o).isSome) && true)) = true
            rw [ev]
            simp
          | false =>
            refine ⟨true, rfl, iteT ⟨_, rfl, _, rfl, err_go2 fun tp dx' htp hdx => bad ?_ _ dx' (same_new htp) hdx⟩⟩
            show (decide (sPiece = sPiece) && (valV (kindD qs) o).isSome) = false
            rw [ev]
            simp
        · have e : decide (V.str kd = V.str "piece") = false := decide_eq_false (fun z => hk2 (by injection z))
          rw [e]
          refine iteT (iteT ⟨_, rfl, _, rfl, err_go2 fun tp dx' htp hdx => bad ?_ _ dx' (same_new htp) hdx⟩)
          show (decide (kd = sPiece) && _) = false
          rw [decide_eq_false hk2]
          rfl
      · rintro σ H7 ⟨w4, w5, w6, rfl, s7, al⟩
        rw [lu, List.take_length] at al
        refine ⟨_, _, _, _, _, rfl, s06.trans s7, find_step nb had ?_⟩
        show (!ownA qs (z, n, wd)) = false
        unfold ownA
        rw [al]
        rfl
    · rintro σ H5 ⟨w2, w3, w4, w5, w6, rfl, s5, nb⟩
      rw [lk, List.take_length] at nb
      refine ⟨s5 _ _ hD0, q nb _ fun b o e => ?_⟩
      by_cases c : b = D
      · subst c
        rw [upd_same, ← e, hD]
      · rw [upd_ne c]
        exact s5 _ _ (kp0 _ _ c e)
end
end DR

namespace DR
open PySem PySem.Spec PyProof.Rows L2
/-! ### addresses of any data -/
def readAdr (d : PyData) : Option (Str × Int) := match items d with
  | some [.str z, .int n] => if isNmS z = true then some (z, n) else none
  | _ => none
def okAd (d : PyData) : Prop := ∀ x y, items d = some [x, y] → shortS x
def AdV (H : Hp) (v : V) : Option (Str × Int) → Prop
  | none => v = .non
  | some a => ∃ p, v = .ref p ∧ H p = some (.tup [.str a.1, .int a.2])
def spReadAdr (K : PySem.W.Frag) : Sp := fun vs H Q _ => ∃ v d, vs = [v] ∧ Th K H v d ∧ okAd d ∧ ∀ v' H', Same H H' → AdV H' v' (readAdr d) → Q v' H'
theorem two_of {d : PyData} (e : isRof d 2 = true) : ∃ x y, items d = some [x, y] := by
  unfold isRof at e
  cases h : items d with
  | none => rw [h] at e; cases e
  | some xs =>
    rw [h] at e
    have e : (xs.length : Int) = 2 := of_decide_eq_true e
    match xs, e with
    | [x, y], _ => exact ⟨x, y, rfl⟩
    | [], z => exact absurd z (by decide)
    | [_], z => exact absurd z (by simp)
    | _ :: _ :: _ :: _, z => simp at z; omega
theorem not_two {d : PyData} (e : isRof d 2 = false) : readAdr d = none := by
  unfold readAdr
  split
  · rename_i z n h
    unfold isRof at e
    rw [h] at e
    simp at e
  · rfl
theorem str_of {x : PyData} (e : isNm x = true) : ∃ p, x = .str p ∧ isNmS p = true := by
  cases x with
  | str p => exact ⟨p, rfl, e⟩
  | none => cases e
  | bool b => cases e
  | int i => cases e
  | list l => cases e
  | tuple l => cases e
  | dict l => cases e
theorem int_of {x : PyData} (e : isI x = true) : ∃ n, x = .int n := by
  cases x with
  | int n => exact ⟨n, rfl⟩
  | none => cases e
  | bool b => cases e
  | str i => cases e
  | list l => cases e
  | tuple l => cases e
  | dict l => cases e
section
variable {P : Program} {w : World} {K : PySem.W.Frag} {mg : Str → Option Value} {base : Heap}
theorem ok_readAdr {f : Addr} {fd : FuncData} (F : Fun K "read_address" "read_address" sReadAddr f fd) (G1 : Has P w K mg base CX0 2 "is_row_of" ["thing", "many"] (spIsRowOf K)) (G2 : Has P w K mg base CX0 2 "is_name" ["thing"] (spIsName K)) (G3 : Has P w K mg base CX0 2 "is_integer" ["thing"] (spIsInt K)) : FnOk P w K mg base CX0 3 f fd ["thing"] (spReadAdr K) := by
  refine F.ok scReadAddr (fun vs H Q E h => ?_) (fun cdv A outer s H vs Q E hr h => ?_)
  · obtain ⟨v, d, rfl, _⟩ := h
    rfl
  · obtain ⟨v, d, rfl, th, ok, q⟩ := h
    refine ⟨_, (pss_cons (ps_if (PW.pt (pw_or (pt_not (pt_val (pe_callH G1 hr (by rfl) pass0 (pa_cons (pv 0) (pa_cons pe_int pa_nil))))) (pw_or (pt_not (pt_val (pe_callH G2 hr (by rfl) pass0 (pa_cons (pe_ix ix_seq (pv 0) pe_int (fun _ _ => rfl)) pa_nil)))) (pw_or1 (pt_not (pt_val (pe_callH G3 hr (by rfl) pass0 (pa_cons (pe_ix ix_seq (pv 0) pe_int (fun _ _ => rfl)) pa_nil)))))))) (pss_one (ps_ret pe_non)) pss_nil)
      (pss_one (ps_ret (pe_tup (pa_cons (pe_ix ix_seq (pv 0) pe_int (fun _ _ => rfl)) (pa_cons (pe_ix ix_seq (pv 0) pe_int (fun _ _ => rfl)) pa_nil)))))), ?_⟩
    refine ⟨_, rfl, v, d, 2, rfl, th, fun H1 s1 => ⟨_, rfl, ?_⟩⟩
    have no : ∀ {H' : Hp}, Same H H' → readAdr d = none → Q .non H' := fun s' e => q _ _ s' (by rw [e]; rfl)
    cases e2 : isRof d 2 with
    | false => exact iteT (iteT (no s1 (not_two e2)))
    | true =>
      obtain ⟨x, y, ei⟩ := two_of e2
      obtain ⟨a, vs, rfl, hsq, hall⟩ := th_items th ei
      cases hall with
      | @cons v1 _ _ _ h1 t1 => cases t1 with
        | @cons v2 _ _ _ h2 t2 =>
          cases t2
          have sq : ∀ {H' : Hp}, Same H H' → SqL K H' a [v1, v2] ∨ SqT K H' a [v1, v2] := fun s' => row_sq s' hsq
          refine iteF ⟨_, rfl, ix_row (sq s1) (at_of (i := 0) rfl) ⟨v1, x, rfl, .dat (dp_same s1 h1), ok x y ei, fun H2 s2 => ⟨_, rfl, ?_⟩⟩⟩
          have s12 := s1.trans s2
          cases en : isNm x with
          | false =>
            refine iteT (iteT (no s12 ?_))
            unfold readAdr
            rw [ei]
            split
            · rename_i z n h
              cases h
              rw [if_neg (fun c => by rw [show isNmS z = false from en] at c; cases c)]
            · rfl
          | true =>
            obtain ⟨z, rfl, hz⟩ := str_of en
            cases h1
            refine iteF ⟨_, rfl, ix_row (sq s12) (at_of (i := 1) rfl) ⟨v2, y, rfl, .dat (dp_same s12 h2), _, rfl, ?_⟩⟩
            cases ey : isI y with
            | false =>
              refine iteT (no s12 ?_)
              unfold readAdr
              rw [ei]
              split
              · rename_i z n h
                cases h
                cases ey
              · rfl
            | true =>
              obtain ⟨n, rfl⟩ := int_of ey
              cases h2
              refine iteF ⟨_, rfl, ix_row (sq s12) (at_of (i := 0) rfl) ⟨_, rfl, ix_row (sq s12) (at_of (i := 1) rfl) ⟨(by show 2 ≤ sizeLine; decide), fun p hp => ?_⟩⟩⟩
              refine q _ _ (s12.trans (same_new hp)) ?_
              have : readAdr d = some (z, n) := by
                unfold readAdr
                rw [ei]
                show (if isNmS z = true then _ else _) = _
                rw [if_pos hz]
              rw [this]
              exact ⟨p, rfl, upd_same⟩
end
end DR

namespace DR
open PySem PySem.Spec PyProof.Rows L2
/-- a method of the class at C that keeps its promise -/
structure HasM (P : Program) (w : World) (K : PySem.W.Frag) (mg : Str → Option Value) (base : Heap) (CX : CXT) (k : Nat) (C : Addr) (m : Str) (ps : List Str) (sp : Sp) : Prop where
  ex : ∃ (f : Addr) (fd : FuncData), Meth K C m f ∧ Binds K fd ps [] ∧ FnOk P w K mg base CX k f fd ps sp
  cl : Cls K C
theorem HasM.mono {P : Program} {w : World} {K : PySem.W.Frag} {mg : Str → Option Value} {base : Heap} {CX : CXT} {j k : Nat} {C : Addr} {m : Str} {ps : List Str} {sp : Sp} (h : HasM P w K mg base CX j C m ps sp) (l : j ≤ k) : HasM P w K mg base CX k C m ps sp := by
  obtain ⟨⟨f, fd, a, b, c⟩, d⟩ := h
  exact ⟨⟨f, fd, a, b, c.mono l⟩, d⟩
section
variable {X : Cx} {CX : CXT} {k : Nat} {C : Addr} {ps : List Str} {sp : Sp} {E : XK} {m : Str} {p pos apos : Pos} {e o : Expr} {es : List Expr} {t : TA} {ta : TE}
theorem pe_methH {pl : Sem Bool} (M : HasM X.prog X.w X.K X.mg X.base CX k C m ps sp) (he : PE X o ta) (hr : Room k X.A) (hx : Passes CX X E) (ha : PA X (e :: es) t)
    (hst : starEach (e :: es) X.env = (false, eval e X.env) :: starEach es X.env := by rfl) (hpl : (backTo pos (starEach es X.env)).any (·.1) = false := by rfl)
    (ht : eval (.Call (.Attribute o m apos) (e :: es) [] pos) X.env = (do
      let ov ← eval o X.env
      standAt apos.atName
      let (f, first) ← holding [ov] (getMethod ov m pl)
      callWith pos f first (backTo pos (starEach (e :: es) X.env)) (backToKw pos (keywordEach [] X.env))) := by rfl) : PE X (.Call (.Attribute o m apos) (e :: es) [] pos) (tMeth C m sp [] E ta t) := by
  obtain ⟨⟨f, fd, a, b, c⟩, d⟩ := M
  exact pe_meth he d a c hr b .nil hx ha hst hpl ht
theorem pe_methH0 {pl : Sem Bool} (M : HasM X.prog X.w X.K X.mg X.base CX k C m ps sp) (he : PE X o ta) (hr : Room k X.A) (hx : Passes CX X E)
    (ht : eval (.Call (.Attribute o m apos) [] [] pos) X.env = (do
      let ov ← eval o X.env
      standAt apos.atName
      let (f, first) ← holding [ov] (getMethod ov m pl)
      callWith pos f first (backTo pos (starEach [] X.env)) (backToKw pos (keywordEach [] X.env))) := by rfl) : PE X (.Call (.Attribute o m apos) [] [] pos) (tMeth C m sp [] E ta tNil) := by
  obtain ⟨⟨f, fd, a, b, c⟩, d⟩ := M
  exact pe_meth0 he d a c hr b .nil hx ht
end
/-! ### images -/
def imF (p d r : Addr) : List (Str × V) := [("parts", .ref p), ("sums", .ref d), ("first", .ref r)]
/-- an image of these pieces that begins at a0, at x -/
def ImgG (H : Hp) (C x : Addr) (qs : List Pk) (a0 : Str × Int) : Prop := PkOk qs ∧ ∃ dx p d r xs ks, H x = some (.ins C dx (imF p d r)) ∧ H p = some (.tup xs) ∧ PySem.W.EachIs (PieceG H) xs qs ∧ H d = some (.dT ks) ∧ PySem.W.EachIs (AdrV H) ks (adrs qs) ∧ H r = some (.tup [.str a0.1, .int a0.2])
theorem imgG_s {H H' : Hp} (e : Same H H') {C x : Addr} {qs : List Pk} {a0 : Str × Int} (h : ImgG H C x qs a0) : ImgG H' C x qs a0 := by
  obtain ⟨ok, dx, p, d, r, xs, ks, h1, h2, h3, h4, h5, h6⟩ := h
  exact ⟨ok, dx, p, d, r, xs, ks, e _ _ h1, e _ _ h2, eachs_imp (fun _ _ => pieceG_s (TupS.of e)) h3, e _ _ h4, eachs_imp (fun _ _ => adrV_s (TupS.of e)) h5, e _ _ h6⟩
structure ImC (K : PySem.W.Frag) (C : Addr) : Prop where
  cl : Cls K C
  n1 : NoAttr K C "parts"
  n2 : NoAttr K C "sums"
  n3 : NoAttr K C "first"
def keyA (a : Str × Int) : List Key := [.inr a.1, .inl a.2]
def kindOf (qs : List Pk) (z : Str) : Option Str := (qs.find? fun q => decide (q.1 = z)).map fun q => q.2.1
/-- where runs may begin -/
def startB (qs : List Pk) (a : Str × Int) : Bool := ((adrs qs).any fun x => decide (adrK x = keyA a)) && decide (kindOf qs a.1 = some "code")
theorem val_some {H : Hp} {ks : List (List Key × V)} {as : List Adr} (h : PySem.W.EachIs (AdrV H) ks as) (u : List Key) : (valV ks u).isSome = as.any fun x => decide (adrK x = u) := by
  unfold valV
  induction h with
  | nil => rfl
  | @cons e a ks as h t ih =>
    have h1 : e.1 = adrK a := h.1
    rw [List.any_cons]
    by_cases c : e.1 = u
    · rw [List.find?_cons_of_pos (by simp [c]), decide_eq_true (h1 ▸ c)]
      rfl
    · rw [List.find?_cons_of_neg (by simp [c]), ih, decide_eq_false (h1 ▸ c)]
      rfl
theorem kind_val2 (qs : List Pk) (z : Str) : valV (kindD qs) (.inr z) = (kindOf qs z).map V.str := by
  rw [kind_val]
  unfold kindOf
  rw [Option.map_map]
  rfl
theorem kind_has {qs : List Pk} {z : Str} (h : z ∈ qs.map (·.1)) : ∃ k, kindOf qs z = some k := by
  unfold kindOf
  cases e : qs.find? (fun q => decide (q.1 = z)) with
  | some q => exact ⟨q.2.1, rfl⟩
  | none =>
    obtain ⟨q, hq, ez⟩ := List.mem_map.mp h
    have := List.find?_eq_none.mp e q hq
    simp [ez] at this
theorem readPc_nm {d : PyData} {q : Pk} (e : readPc d = some q) : ∀ w ∈ q.2.2, ∀ u ∈ w.2.map (·.1), NmU u := by
  have all : ∀ {wl : List PyData} {l : List (Int × Mul)}, readAllS wl = some l → ∀ w ∈ l, ∀ u ∈ w.2.map (·.1), NmU u := fun {wl} => by
    induction wl with
    | nil =>
      intro l e w hw
      cases e
      cases hw
    | cons x wl ih =>
      intro l e w hw
      have e : (readSum x).bind (fun s => (readAllS wl).map fun l => s :: l) = some l := e
      cases e1 : readSum x with
      | none => rw [e1] at e; cases e
      | some s =>
        rw [e1] at e
        have e : (readAllS wl).map (fun l => s :: l) = some l := e
        cases e2 : readAllS wl with
        | none => rw [e2] at e; cases e
        | some l2 =>
          rw [e2] at e
          have e : s :: l2 = l := Option.some.inj e
          subst e
          rcases List.mem_cons.mp hw with rfl | hw
          · obtain ⟨n, ps⟩ := w
            exact readSum_nm e1
          · exact ih e2 w hw
  unfold readPc at e
  split at e
  · rename_i p k ws h
    split at e
    · cases e1 : items ws with
      | none => rw [e1] at e; cases e
      | some wl =>
        rw [e1] at e
        have e : (readAllS wl).map (fun l => (p, k, l)) = some q := e
        cases e2 : readAllS wl with
        | none => rw [e2] at e; cases e
        | some l =>
          rw [e2] at e
          have e : (p, k, l) = q := Option.some.inj e
          subst e
          exact all e2
    · cases e
  · cases e
theorem good_nm {ds : List PyData} {qs : List Pk} (h : PySem.W.EachIs GoodP ds qs) : ∀ q ∈ qs, ∀ w ∈ q.2.2, ∀ u ∈ w.2.map (·.1), NmU u := by
  induction h with
  | nil => exact fun _ h => by cases h
  | cons h _ ih =>
    intro q hq
    rcases List.mem_cons.mp hq with rfl | hq
    · exact readPc_nm h
    · exact ih q hq
theorem eachs_inv {α β : Type} {R : α → β → Prop} : ∀ {xs : List α} {ys : List β}, PySem.W.EachIs R xs ys → ∀ {i : Nat} {y : β}, ys[i]? = some y → ∃ x, xs[i]? = some x ∧ R x y
  | _, _, .cons h t, 0, y, e => by
    have e : _ = y := Option.some.inj e
    subst e
    exact ⟨_, rfl, h⟩
  | _, _, .cons h t, i + 1, y, e => eachs_inv t (i := i) e
mutual
theorem dp_but {K : PySem.W.Frag} {H H' : Hp} {x : Addr} {o0 : HO} (hx : H x = some o0) (n1 : ∀ C dx fs, o0 = .ins C dx fs → True) (ni : ∃ C dx fs, o0 = .ins C dx fs) (e : ∀ b o, b ≠ x → H b = some o → H' b = some o) : ∀ {v : V} {d : PyData}, Dp K H v d → Dp K H' v d
  | _, _, .non => .non
  | _, _, .bl b => .bl b
  | _, _, .int i => .int i
  | _, _, .str x => .str x
  | _, _, .lst s a => .lst (s.imp (fun h => h.imp (fun h => e _ _ (fun z => by obtain ⟨_, _, _, r⟩ := ni; rw [z, hx, r] at h; cases h) h) (fun ⟨o, h⟩ => ⟨o, e _ _ (fun z => by obtain ⟨_, _, _, r⟩ := ni; rw [z, hx, r] at h; cases h) h⟩)) id) (dps_but hx n1 ni e a)
  | _, _, .tup s a => .tup (s.imp (fun h => h.imp (fun h => e _ _ (fun z => by obtain ⟨_, _, _, r⟩ := ni; rw [z, hx, r] at h; cases h) h) (fun ⟨o, h⟩ => ⟨o, e _ _ (fun z => by obtain ⟨_, _, _, r⟩ := ni; rw [z, hx, r] at h; cases h) h⟩)) id) (dps_but hx n1 ni e a)
theorem dps_but {K : PySem.W.Frag} {H H' : Hp} {x : Addr} {o0 : HO} (hx : H x = some o0) (n1 : ∀ C dx fs, o0 = .ins C dx fs → True) (ni : ∃ C dx fs, o0 = .ins C dx fs) (e : ∀ b o, b ≠ x → H b = some o → H' b = some o) : ∀ {vs : List V} {ds : List PyData}, DpAll K H vs ds → DpAll K H' vs ds
  | _, _, .nil => .nil
  | _, _, .cons h t => .cons (dp_but hx n1 ni e h) (dps_but hx n1 ni e t)
end
theorem th_but {K : PySem.W.Frag} {H H' : Hp} {x C dx : Addr} {fs : List (Str × V)} (hx : H x = some (.ins C dx fs)) (e : ∀ b o, b ≠ x → H b = some o → H' b = some o) {v : V} {d : PyData} (h : Th K H v d) : Th K H' v d := by
  cases h with
  | dat h => exact .dat (dp_but hx (fun _ _ _ _ => trivial) ⟨_, _, _, rfl⟩ e h)
  | dct h => exact .dct (e _ _ (fun z => by rw [z, hx] at h; cases h) h)
def ErrAt (E : XK) (H : Hp) (x : Addr) (CE : Addr) (fs : List (Str × V)) : Prop := ∀ H' dx, (∀ b o, b ≠ x → H b = some o → H' b = some o) → H' dx = none → E (.ref CE) (some dx) (upd H' dx (.xd fs))
def spImg (K : PySem.W.Frag) (C CB CW CS : Addr) : Sp := fun vs H Q E => ∃ (x dx : Addr) (v sv : V) (d sd : PyData), vs = [.ref x, v, sv] ∧ H x = some (.ins C dx []) ∧ ThE K H v d ∧ Th K H sv sd ∧ okAd sd ∧
  ((items d = none ∧ ErrAt E H x CB [("index", .int 0)]) ∨
   ∃ ds, items d = some ds ∧ ds.length ≤ 10 ∧ (∀ y ∈ ds, okPc y ∧ ∀ q, readPc y = some q → q.2.2.length ≤ 10) ∧ (∀ i, BadP ds i → ErrAt E H x CB [("index", .int (i : Nat))]) ∧
     ∀ qs, PySem.W.EachIs GoodP ds qs → (qs.map (·.1)).Nodup → (∀ a, badWord qs = some a → ErrAt E H x CW [("k", .int (a.2.1 : Nat)), ("p", .str a.1)]) ∧
       (badWord qs = none → ((readAdr sd = none ∨ ∃ a, readAdr sd = some a ∧ startB qs a = false) → ErrAt E H x CS [("address", sv)]) ∧
         ∀ a, readAdr sd = some a → startB qs a = true → ∀ H', (∀ b o, b ≠ x → H b = some o → H' b = some o) → ImgG H' C x qs a → Q .non H'))
abbrev sImg : Stmt := inClass (topS 27) 0
theorem scImg : FnScope ["self", "pieces", "start", "kinds", "first"] ["self", "pieces", "start"] (defScope sImg) := ⟨rfl, rfl, rfl, by decide +kernel, rfl, by decide +kernel, by decide +kernel⟩
theorem ne_of_none' {H : Hp} {x p : Addr} {o : HO} (h : H x = some o) (hp : H p = none) : p ≠ x := fun z => by
  rw [z, h] at hp
  cases hp
section
variable {P : Program} {w : World} {K : PySem.W.Frag} {mg : Str → Option Value} {base : Heap}
theorem ok_img {f C CB CW CS : Addr} {fd : FuncData} (F : Fun K "__init__" "Image.__init__" sImg f fd) (T : Bi mg) (B : ImC K C) (S : Err P w K mg base "BadStart" CS "address") (G1 : Has P w K mg base (L2.CX P w) 6 "read_pieces" ["pieces"] (spReadPcs K CB)) (G2 : Has P w K mg base CX0 6 "words_of" ["pieces"] (spWords K)) (G3 : Has P w K mg base CX0 6 "kinds_of" ["pieces"] (spKinds K)) (G4 : Has P w K mg base (L2.CX P w) 6 "check_words" ["sums", "kinds"] (spCheckW K CW)) (G5 : Has P w K mg base CX0 6 "read_address" ["thing"] (spReadAdr K)) :
    FnOk P w K mg base (L2.CX P w) 7 f fd ["self", "pieces", "start"] (spImg K C CB CW CS) := by
  refine F.okX scImg (fun vs H Q E h => ?_) (fun cdv A outer s H vs Q E hr h => ?_)
  · obtain ⟨x, dx, v, sv, d, sd, rfl, _⟩ := h
    rfl
  · obtain ⟨x, dx, v, sv, d, sd, rfl, hx, th, ths, oks, want⟩ := h
    have hu := hu_of hr
    refine ⟨_, (pss_cons (ps_fld (pv 0) (pe_callTy call_tuple_of (by rfl) T.tuple (by decide +kernel) (pa_cons (pe_callH G1 hr (by rfl) (passes_call (W := fun cls d _ H => E cls d H) (takes_of rfl rfl rfl rfl) (fun _ _ _ _ h => h)) (pa_cons (pv 1) pa_nil)) pa_nil)) rfl)
      (pss_cons (ps_fld (pv 0) (pe_callH G2 hr (by rfl) pass0 (pa_cons (pe_fld (pv 0) rfl) pa_nil)) rfl)
      (pss_cons (ps_set (i := 3) scImg.nd rfl (.inl rfl) (pe_callH G3 hr (by rfl) pass0 (pa_cons (pe_fld (pv 0) rfl) pa_nil)))
      (pss_cons (ps_expr (pe_callH G4 hr (by rfl) (passes_call (W := fun cls d _ H => E cls d H) (takes_of rfl rfl rfl rfl) (fun _ _ _ _ h => h)) (pa_cons (pe_fld (pv 0) rfl) (pa_cons (pv 3) pa_nil))))
      (pss_cons (ps_set (i := 4) scImg.nd rfl (.inl rfl) (pe_callH G5 hr (by rfl) pass0 (pa_cons (pv 2) pa_nil)))
      (pss_cons (ps_if (PW.pt (pw_or (pt_cmpR op_isN (pv 4) pe_non (nomark _)) (pw_or (pt_cmp (pc_dnotin hu (pv 4) (pe_fld (pv 0) rfl)) (by rfl)) (pw_or1 (pt_cmpR op_ne (pe_dget hu (pv 3) (pe_ix ix_tup (pv 4) pe_int (fun _ _ => rfl)) (fun _ _ => rfl)) pe_str (nomark _)))))) (pss_one (ps_err rfl (takes_of rfl rfl rfl rfl) S hr (by decide) (pv 2))) pss_nil)
      (pss_one (ps_fld (pv 0) (pv 4) rfl)))))))), ?_⟩
    have px : ∀ {H' : Hp}, Same H H' → ∀ b o, b ≠ x → H b = some o → H' b = some o := fun s' b o _ e => s' b o e
    refine ⟨_, rfl, v, d, rfl, th, ?_⟩
    rcases want with ⟨ei, qe⟩ | ⟨ds, ei, few, okd, qe, want⟩
    · exact .inl ⟨ei, fun H' dx' s' hdx => qe H' dx' (px s') hdx⟩
    refine .inr ⟨ds, ei, by omega, fun y hy => (okd y hy).1, fun i hi H' dx' s' hdx => qe i hi H' dx' (px s') hdx, fun qs hgood hnod D ys H1 s1 hD0 hD hys => ?_⟩
    obtain ⟨qw, want⟩ := want qs hgood hnod
    have ok : PkOk qs := by
      refine ⟨hnod, by have := hgood.length; omega, fun q hq => ?_, good_nm hgood⟩
      obtain ⟨i, hi⟩ := List.mem_iff_getElem?.mp hq
      obtain ⟨y, hy, hg⟩ := eachs_inv hgood hi
      exact (okd y (List.mem_of_getElem? hy)).2 q hg
    refine ⟨D, ys, rfl, .inl ⟨SqL.of hD, fun p hp => ?_⟩⟩
    have pnx : p ≠ x := ne_of_none' (s1 _ _ hx) hp
    have s12 := s1.trans (same_new (o := .tup ys) hp)
    refine ⟨_, rfl, x, C, dx, [], rfl, s12 _ _ hx, B.cl, B.n1, (by decide), ?_⟩
    generalize hH3 : upd (upd H1 p (.tup ys)) x (.ins C dx (putF "parts" (.ref p) [])) = H3
    have k3 : ∀ b o, b ≠ x → H b = some o → H3 b = some o := fun b o hb e => by
      rw [← hH3, upd_ne hb]
      exact s12 _ _ e
    have x3 : H3 x = some (.ins C dx [("parts", .ref p)]) := by rw [← hH3, upd_same]; rfl
    have p3 : H3 p = some (.tup ys) := by rw [← hH3, upd_ne pnx]; exact upd_same
    have t13 : TupS H1 H3 := by
      rw [← hH3]
      exact (TupS.of (same_new hp)).trans (TupS.put (s12 _ _ hx) (by intro xs z; cases z))
    have r3 := eachs_imp (fun _ _ => pieceG_s t13) hys
    refine ⟨_, rfl, x, C, dx, _, _, rfl, x3, B.cl, B.n1, rfl, p, ys, _, rfl, p3, r3, ok, fun W ks H4 s4 hW0 hW hks => ?_⟩
    have x4 := s4 _ _ x3
    have hWx : W ≠ x := ne_of_none' x3 hW0
    refine ⟨_, rfl, x, C, dx, _, rfl, x4, B.cl, B.n2, (by show 1 < 1000; decide), ?_⟩
    generalize hH5 : upd H4 x (.ins C dx (putF "sums" (.ref W) [("parts", .ref p)])) = H5
    have k5 : ∀ b o, b ≠ x → H b = some o → H5 b = some o := fun b o hb e => by
      rw [← hH5, upd_ne hb]
      exact s4 _ _ (k3 b o hb e)
    have x5 : H5 x = some (.ins C dx [("parts", .ref p), ("sums", .ref W)]) := by rw [← hH5, upd_same]; rfl
    have p5 : H5 p = some (.tup ys) := by rw [← hH5, upd_ne pnx]; exact s4 _ _ p3
    have W5 : H5 W = some (.dT ks) := by rw [← hH5, upd_ne hWx]; exact hW
    have hWH : H W = none := by
      cases e : H W with
      | none => rfl
      | some o => rw [k3 _ _ hWx e] at hW0; cases hW0
    have t45 : TupS H4 H5 := by
      rw [← hH5]
      exact TupS.put x4 (by intro xs z; cases z)
    have r5 := eachs_imp (fun _ _ => pieceG_s ((TupS.of s4).trans t45)) r3
    have hks5 := eachs_imp (fun _ _ => adrV_s t45) hks
    refine ⟨_, rfl, x, C, dx, _, _, rfl, x5, B.cl, B.n1, rfl, p, ys, _, rfl, p5, r5, ok, fun E6 H6 s6 hE0 hE => ?_⟩
    have x6 := s6 _ _ x5
    have hWE : W ≠ E6 := fun z => by rw [← z, W5] at hE0; cases hE0
    refine ⟨_, rfl, x, C, dx, _, _, rfl, x6, B.cl, B.n2, rfl, _, rfl, W, E6, ks, _, rfl, hWE, s6 _ _ W5, eachs_imp (fun _ _ => adrV_s (TupS.of s6)) hks5, ok, hE, fun a ha H' dx' kp hdx => qw a ha H' dx' (fun b o hb e => kp b o (ne_of_none e hWH) (s6 _ _ (k5 b o hb e))) hdx, fun nb H7 s7 => ?_⟩
    obtain ⟨qs1, qs2⟩ := want nb
    have k7 : ∀ b o, b ≠ x → H b = some o → H7 b = some o := fun b o hb e => s7 _ _ (s6 _ _ (k5 b o hb e))
    have ths7 : Th K H7 sv sd := th_but hx k7 ths
    refine ⟨_, rfl, sv, sd, rfl, ths7, oks, fun v8 H8 s8 hv8 => ?_⟩
    have x8 := s8 _ _ (s7 _ _ x6)
    have W8 := s8 _ _ (s7 _ _ (s6 _ _ W5))
    have E8 := s8 _ _ (s7 _ _ hE)
    have k8 : ∀ b o, b ≠ x → H b = some o → H8 b = some o := fun b o hb e => s8 _ _ (k7 b o hb e)
    cases er : readAdr sd with
    | none =>
      rw [er] at hv8
      obtain rfl : v8 = .non := hv8
      exact ⟨_, rfl, rfl, true, by decide, iteT (iteT ⟨_, rfl, err_go fun dx' hdx => qs1 (.inl er) H8 dx' k8 hdx⟩)⟩
    | some a0 =>
      rw [er] at hv8
      obtain ⟨r8, rfl, hr8⟩ := hv8
      refine ⟨_, rfl, rfl, false, by simp, ?_⟩
      refine iteF ⟨_, rfl, _, rfl, x, C, dx, _, _, rfl, x8, B.cl, B.n2, rfl, W, _, rfl, DGet.t (k := keyA a0) W8 hr8, ?_⟩
      have hks8 := eachs_imp (fun _ _ => adrV_s (TupS.of ((s6.trans s7).trans s8))) hks5
      rw [val_some hks8]
      cases eh : (adrs qs).any fun x => decide (adrK x = keyA a0) with
      | false =>
        refine ⟨true, rfl, iteT (iteT ⟨_, rfl, err_go fun dx' hdx => qs1 (.inr ⟨a0, er, ?_⟩) H8 dx' k8 hdx⟩)⟩
        unfold startB
        rw [eh]
        rfl
      | true =>
        refine ⟨false, rfl, ?_⟩
        obtain ⟨kd, hkd⟩ : ∃ k, kindOf qs a0.1 = some k := by
          obtain ⟨y, hy, e⟩ := List.any_eq_true.mp eh
          have e := of_decide_eq_true e
          have e0 := congrArg (fun z : List Key => z[0]?) e
          have e0 : y.1 = a0.1 := by simpa [adrK, keyA] using e0
          exact kind_has (e0 ▸ adrs_nm hy)
        have g := DGet.k (k := .inr a0.1) E8
        rw [kind_val2, hkd] at g
        refine iteF ⟨_, rfl, _, rfl, r8, _, _, _, rfl, rfl, SqT.of hr8, at_of (i := 0) rfl, E6, V.str kd, rfl, g, rfl, _, rfl, ?_⟩
        by_cases hc : kd = "code"
        · subst hc
          rw [show (!decide (V.str "code" = V.str "code")) = false from by decide +kernel]
          refine iteF ⟨_, rfl, _, rfl, x, C, dx, _, rfl, x8, B.cl, B.n3, (by show 2 < 1000; decide), ?_⟩
          have t58 := TupS.of ((s6.trans s7).trans s8)
          have t89 : TupS H8 (upd H8 x (.ins C dx (putF "first" (.ref r8) [("parts", .ref p), ("sums", .ref W)]))) := TupS.put x8 (by intro xs z; cases z)
          have hsb : startB qs a0 = true := by
            unfold startB
            rw [eh, hkd]
            simp
          refine qs2 a0 er hsb _ (fun b o hb e => by rw [upd_ne hb]; exact k8 b o hb e) ⟨ok, dx, p, W, r8, ys, ks, upd_same, ?_, eachs_imp (fun _ _ => pieceG_s (t58.trans t89)) r5, ?_, eachs_imp (fun _ _ => adrV_s t89) hks8, t89 _ _ hr8⟩
          · rw [upd_ne pnx]
            exact s8 _ _ (s7 _ _ (s6 _ _ p5))
          · rw [upd_ne hWx]
            exact W8
        · rw [show (!decide (V.str kd = V.str "code")) = true from by simp [hc]]
          refine iteT ⟨_, rfl, err_go fun dx' hdx => qs1 (.inr ⟨a0, er, ?_⟩) H8 dx' k8 hdx⟩
          unfold startB
          rw [hkd]
          simp [hc]
end
end DR

namespace DR
open PySem PySem.Spec PyProof.Rows L2
/-! ### what images answer -/
def spPieces (K : PySem.W.Frag) (C : Addr) : Sp := fun vs H Q _ => ∃ (x : Addr) (qs : List Pk) (a0 : Str × Int), vs = [.ref x] ∧ ImgG H C x qs a0 ∧ ∀ d ys H', Same H H' → H d = none → H' d = some (.lst ys) → PySem.W.EachIs (PieceG H') ys qs → Q (.ref d) H'
abbrev sPieces : Stmt := inClass (topS 27) 1
theorem scPieces : FnScope ["self"] ["self"] (defScope sPieces) := ⟨rfl, rfl, rfl, by decide +kernel, rfl, by decide +kernel, by decide +kernel⟩
def spLen (C : Addr) : Sp := fun vs H Q _ => ∃ (x : Addr) (qs : List Pk) (a0 : Str × Int), vs = [.ref x] ∧ ImgG H C x qs a0 ∧ Q (.int ((adrs qs).length : Nat)) H
abbrev sLen : Stmt := inClass (topS 27) 3
theorem scLen : FnScope ["self"] ["self"] (defScope sLen) := ⟨rfl, rfl, rfl, by decide +kernel, rfl, by decide +kernel, by decide +kernel⟩
section
variable {P : Program} {w : World} {K : PySem.W.Frag} {mg : Str → Option Value} {base : Heap}
theorem ok_pieces {f C : Addr} {fd : FuncData} (F : Fun K "pieces" "Image.pieces" sPieces f fd) (T : Bi mg) (B : ImC K C) : FnOk P w K mg base CX0 1 f fd ["self"] (spPieces K C) := by
  refine F.ok scPieces (fun vs H Q E h => ?_) (fun cdv A outer s H vs Q E hr h => ?_)
  · obtain ⟨x, qs, a0, rfl, _⟩ := h
    rfl
  · obtain ⟨x, qs, a0, rfl, ⟨ok, dx, p, d, r, xs, ks, hx, hp, hxs, _⟩, q⟩ := h
    refine ⟨_, (pss_one (ps_ret (pe_callTy call_list_of (by rfl) T.list (by decide +kernel) (pa_cons (pe_fld (pv 0) rfl) pa_nil)))), ?_⟩
    refine ⟨_, rfl, x, C, dx, _, _, rfl, hx, B.cl, B.n1, rfl, p, xs, rfl, .inr (SqT.of hp), fun D hD => ?_⟩
    have s1 := same_new (o := .lst xs) hD
    exact q D xs _ s1 hD upd_same (eachs_imp (fun _ _ => pieceG_s (TupS.of s1)) hxs)
theorem ok_len {f C : Addr} {fd : FuncData} (F : Fun K "__len__" "Image.__len__" sLen f fd) (T : Bi mg) (B : ImC K C) : FnOk P w K mg base CX0 1 f fd ["self"] (spLen C) := by
  refine F.ok scLen (fun vs H Q E h => ?_) (fun cdv A outer s H vs Q E hr h => ?_)
  · obtain ⟨x, qs, a0, rfl, _⟩ := h
    rfl
  · obtain ⟨x, qs, a0, rfl, ⟨ok, dx, p, d, r, xs, ks, hx, hp, hxs, hd, hks, _⟩, q⟩ := h
    refine ⟨_, (pss_one (ps_ret (pe_callB call_len_dT (by rfl) T.len (by decide +kernel) (pa_cons (pe_fld (pv 0) rfl) pa_nil)))), ?_⟩
    rw [← hks.length] at q
    exact ⟨_, rfl, x, C, dx, _, _, rfl, hx, B.cl, B.n2, rfl, d, ks, rfl, hd, q⟩
end
end DR

namespace DR
open PySem PySem.Spec PyProof.Rows L2
/-! ### pairs of any things: a dict may be in the pair -/
def spIsRowT (K : PySem.W.Frag) : Sp := fun vs H Q _ => ∃ a xs, vs = [.ref a] ∧ SqT K H a xs ∧ ∀ H', Same H H' → Q (.bl true) H'
def spIsRowOfT (K : PySem.W.Frag) : Sp := fun vs H Q _ => ∃ a xs n, vs = [.ref a, .int n] ∧ SqT K H a xs ∧ ∀ H', Same H H' → Q (.bl (decide ((xs.length : Int) = n))) H'
def adrOf : PyData → PyData → Option (Str × Int)
  | .str z, .int n => if isNmS z = true then some (z, n) else none
  | _, _ => none
def spReadAdrT (K : PySem.W.Frag) : Sp := fun vs H Q _ => ∃ a v1 v2 d1 d2, vs = [.ref a] ∧ SqT K H a [v1, v2] ∧ Th K H v1 d1 ∧ Th K H v2 d2 ∧ shortS d1 ∧ ∀ v' H', Same H H' → AdV H' v' (adrOf d1 d2) → Q v' H'
theorem adr_no1 {x y : PyData} (e : isNm x = false) : adrOf x y = none := by
  unfold adrOf
  split
  · rename_i z n
    rw [if_neg (fun c => by rw [show isNmS z = false from e] at c; cases c)]
  · rfl
theorem adr_no2 {x y : PyData} (e : isI y = false) : adrOf x y = none := by
  unfold adrOf
  split
  · cases e
  · rfl
theorem th_str {K : PySem.W.Frag} {H : Hp} {v : V} {z : Str} (h : Th K H v (.str z)) : v = .str z := by
  cases h with
  | dat h => cases h; rfl
theorem th_int {K : PySem.W.Frag} {H : Hp} {v : V} {n : Int} (h : Th K H v (.int n)) : v = .int n := by
  cases h with
  | dat h => cases h; rfl
section
variable {P : Program} {w : World} {K : PySem.W.Frag} {mg : Str → Option Value} {base : Heap}
theorem ok_isRowT {f : Addr} {fd : FuncData} (F : Fun K "is_row" "is_row" sIsRow f fd) (T : Bi mg) : FnOk P w K mg base CX0 1 f fd ["thing"] (spIsRowT K) := by
  refine F.ok scIsRow (fun vs H Q E h => ?_) (fun cdv A outer s H vs Q E hr h => ?_)
  · obtain ⟨a, xs, rfl, _⟩ := h
    rfl
  · obtain ⟨a, xs, rfl, th, q⟩ := h
    refine ⟨_, (pss_one (ps_ret (pe_callB call_isiT (by rfl) T.isinstance (by decide +kernel) (pa_cons (pv 0) (pa_cons (pe_tup (pa_cons (pe_bltn (v := .ty "list") (by rfl) T.list (by decide +kernel) rfl) (pa_cons (pe_bltn (v := .ty "tuple") (by rfl) T.tuple (by decide +kernel) rfl) pa_nil))) pa_nil))))), ?_⟩
    refine ⟨_, rfl, (by show 2 ≤ sizeLine; decide), fun p hp => ?_⟩
    exact ⟨.ref a, p, _, _, _, _, rfl, upd_same, .cons (.ty "list") (.cons (.ty "tuple") .nil), ty_tup (sqT_same (same_new hp) th), kit_row (.tuple []), q _ (same_new hp)⟩
theorem ok_isRowOfT {f : Addr} {fd : FuncData} (F : Fun K "is_row_of" "is_row_of" sIsRowOf f fd) (T : Bi mg) (G : Has P w K mg base CX0 1 "is_row" ["thing"] (spIsRowT K)) : FnOk P w K mg base CX0 2 f fd ["thing", "many"] (spIsRowOfT K) := by
  refine F.ok scIsRowOf (fun vs H Q E h => ?_) (fun cdv A outer s H vs Q E hr h => ?_)
  · obtain ⟨a, xs, n, rfl, _⟩ := h
    rfl
  · obtain ⟨a, xs, n, rfl, th, q⟩ := h
    refine ⟨_, (pss_one (ps_ret (pe_and (pe_callH G hr (by rfl) pass0 (pa_cons (pv 0) pa_nil)) (pe_one (pe_cmpR op_eq (pe_callB call_len_seq (by rfl) T.len (by decide +kernel) (pa_cons (pv 0) pa_nil)) (pv 1) (nomark _)))))), ?_⟩
    refine ⟨_, rfl, a, xs, rfl, th, fun H' sm => ⟨_, rfl, ?_⟩⟩
    refine iteT ⟨_, rfl, a, xs, rfl, .inr (sqT_same sm th), _, rfl, rfl, ?_⟩
    have z : decide (V.int (xs.length : Int) = V.int n) = decide ((xs.length : Int) = n) := by
      by_cases c : (xs.length : Int) = n
      · rw [c]; simp
      · rw [decide_eq_false c]
        exact decide_eq_false fun z => c (V.int.inj z)
    rw [z]
    exact q H' sm
theorem ok_readAdrT {f : Addr} {fd : FuncData} (F : Fun K "read_address" "read_address" sReadAddr f fd) (G1 : Has P w K mg base CX0 2 "is_row_of" ["thing", "many"] (spIsRowOfT K)) (G2 : Has P w K mg base CX0 2 "is_name" ["thing"] (spIsName K)) (G3 : Has P w K mg base CX0 2 "is_integer" ["thing"] (spIsInt K)) : FnOk P w K mg base CX0 3 f fd ["thing"] (spReadAdrT K) := by
  refine F.ok scReadAddr (fun vs H Q E h => ?_) (fun cdv A outer s H vs Q E hr h => ?_)
  · obtain ⟨a, v1, v2, d1, d2, rfl, _⟩ := h
    rfl
  · obtain ⟨a, v1, v2, x, y, rfl, hsq, h1, h2, ok, q⟩ := h
    refine ⟨_, (pss_cons (ps_if (PW.pt (pw_or (pt_not (pt_val (pe_callH G1 hr (by rfl) pass0 (pa_cons (pv 0) (pa_cons pe_int pa_nil))))) (pw_or (pt_not (pt_val (pe_callH G2 hr (by rfl) pass0 (pa_cons (pe_ix ix_seq (pv 0) pe_int (fun _ _ => rfl)) pa_nil)))) (pw_or1 (pt_not (pt_val (pe_callH G3 hr (by rfl) pass0 (pa_cons (pe_ix ix_seq (pv 0) pe_int (fun _ _ => rfl)) pa_nil)))))))) (pss_one (ps_ret pe_non)) pss_nil)
      (pss_one (ps_ret (pe_tup (pa_cons (pe_ix ix_seq (pv 0) pe_int (fun _ _ => rfl)) (pa_cons (pe_ix ix_seq (pv 0) pe_int (fun _ _ => rfl)) pa_nil)))))), ?_⟩
    refine ⟨_, rfl, a, _, 2, rfl, hsq, fun H1 s1 => ⟨_, rfl, ?_⟩⟩
    have no : ∀ {H' : Hp}, Same H H' → adrOf x y = none → Q .non H' := fun s' e => q _ _ s' (by rw [e]; rfl)
    have sq : ∀ {H' : Hp}, Same H H' → SqL K H' a [v1, v2] ∨ SqT K H' a [v1, v2] := fun s' => .inr (sqT_same s' hsq)
    refine iteF ⟨_, rfl, ix_row (sq s1) (at_of (i := 0) rfl) ⟨v1, x, rfl, th_same s1 h1, ok, fun H2 s2 => ⟨_, rfl, ?_⟩⟩⟩
    have s12 := s1.trans s2
    cases en : isNm x with
    | false => exact iteT (iteT (no s12 (adr_no1 en)))
    | true =>
      obtain ⟨z, rfl, hz⟩ := str_of en
      obtain rfl := th_str h1
      refine iteF ⟨_, rfl, ix_row (sq s12) (at_of (i := 1) rfl) ⟨v2, y, rfl, th_same s12 h2, _, rfl, ?_⟩⟩
      cases ey : isI y with
      | false => exact iteT (no s12 (adr_no2 ey))
      | true =>
        obtain ⟨n, rfl⟩ := int_of ey
        obtain rfl := th_int h2
        refine iteF ⟨_, rfl, ix_row (sq s12) (at_of (i := 0) rfl) ⟨_, rfl, ix_row (sq s12) (at_of (i := 1) rfl) ⟨(by show 2 ≤ sizeLine; decide), fun p hp => ?_⟩⟩⟩
        refine q _ _ (s12.trans (same_new hp)) ?_
        have : adrOf (.str z) (.int n) = some (z, n) := by
          show (if isNmS z = true then _ else _) = _
          rw [if_pos hz]
        rw [this]
        exact ⟨p, rfl, upd_same⟩
end
end DR

namespace DR
open PySem PySem.Spec PyProof.Rows L2
/-! ### the word at an address -/
def wordOf (qs : List Pk) (u : List Key) : Option (Int × Mul) := ((adrs qs).find? fun x => decide (adrK x = u)).map (·.2.2)
theorem val_none {H : Hp} {ks : List (List Key × V)} {as : List Adr} {u : List Key} (h : PySem.W.EachIs (AdrV H) ks as) : (as.find? fun x => decide (adrK x = u)) = none → valV ks u = none := by
  unfold valV
  induction h with
  | nil => intro _; rfl
  | @cons e a ks as h t ih =>
    have h1 : e.1 = adrK a := h.1
    intro z
    by_cases c : adrK a = u
    · rw [List.find?_cons_of_pos (by simp [c])] at z
      cases z
    · rw [List.find?_cons_of_neg (by simp [c])] at z
      rw [List.find?_cons_of_neg (by simp [h1, c])]
      exact ih z
theorem val_word {H : Hp} {ks : List (List Key × V)} {as : List Adr} {u : List Key} {b : Adr} (h : PySem.W.EachIs (AdrV H) ks as) : (as.find? fun x => decide (adrK x = u)) = some b → ∃ v, valV ks u = some v ∧ SumP H v b.2.2 := by
  unfold valV
  induction h with
  | nil => intro z; cases z
  | @cons e a ks as h t ih =>
    have h1 : e.1 = adrK a := h.1
    intro z
    by_cases c : adrK a = u
    · rw [List.find?_cons_of_pos (by simp [c])] at z
      rw [List.find?_cons_of_pos (by simp [h1, c])]
      obtain rfl := Option.some.inj z
      exact ⟨e.2, rfl, h.2⟩
    · rw [List.find?_cons_of_neg (by simp [c])] at z
      rw [List.find?_cons_of_neg (by simp [h1, c])]
      exact ih z
def wordAt (qs : List Pk) (d1 d2 : PyData) : Option (Int × Mul) := (adrOf d1 d2).bind fun a => wordOf qs (keyA a)
def ErrSame (E : XK) (H : Hp) (CE : Addr) (fs : List (Str × V)) : Prop := ∀ H' dx, Same H H' → H' dx = none → E (.ref CE) (some dx) (upd H' dx (.xd fs))
def spWordAt (K : PySem.W.Frag) (CN : Addr) : Sp := fun vs H Q E => ∃ (D : Addr) (ks : List (List Key × V)) (qs : List Pk) (v1 v2 : V) (d1 d2 : PyData), vs = [.ref D, v1, v2] ∧ H D = some (.dT ks) ∧ PySem.W.EachIs (AdrV H) ks (adrs qs) ∧ Th K H v1 d1 ∧ Th K H v2 d2 ∧ shortS d1 ∧
  (wordAt qs d1 d2 = none → ErrSame E H CN [("k", v2), ("p", v1)]) ∧ ∀ w, wordAt qs d1 d2 = some w → ∀ v' H', Same H H' → SumP H' v' w → Q v' H'
abbrev sWordAt : Stmt := topS 23
theorem scWordAt : FnScope ["sums", "p", "k", "address"] ["sums", "p", "k"] (defScope sWordAt) := ⟨rfl, rfl, rfl, by decide +kernel, rfl, by decide +kernel, by decide +kernel⟩
def spWordM (K : PySem.W.Frag) (C CN : Addr) : Sp := fun vs H Q E => ∃ (x : Addr) (qs : List Pk) (a0 : Str × Int) (v1 v2 : V) (d1 d2 : PyData), vs = [.ref x, v1, v2] ∧ ImgG H C x qs a0 ∧ Th K H v1 d1 ∧ Th K H v2 d2 ∧ shortS d1 ∧
  (wordAt qs d1 d2 = none → ErrSame E H CN [("k", v2), ("p", v1)]) ∧ ∀ w, wordAt qs d1 d2 = some w → ∀ v' H', Same H H' → SumP H' v' w → Q v' H'
abbrev sWordM : Stmt := inClass (topS 27) 2
theorem scWordM : FnScope ["self", "p", "k"] ["self", "p", "k"] (defScope sWordM) := ⟨rfl, rfl, rfl, by decide +kernel, rfl, by decide +kernel, by decide +kernel⟩
section
variable {P : Program} {w : World} {K : PySem.W.Frag} {mg : Str → Option Value} {base : Heap}
theorem ok_wordAt {f CN : Addr} {fd : FuncData} (F : Fun K "word_at" "word_at" sWordAt f fd) (S : Err2 P w K mg base "NoWord" CN "p" "k") (G : Has P w K mg base CX0 3 "read_address" ["thing"] (spReadAdrT K)) : FnOk P w K mg base (L2.CX P w) 5 f fd ["sums", "p", "k"] (spWordAt K CN) := by
  refine F.okX scWordAt (fun vs H Q E h => ?_) (fun cdv A outer s H vs Q E hr h => ?_)
  · obtain ⟨D, ks, qs, v1, v2, d1, d2, rfl, _⟩ := h
    rfl
  · obtain ⟨D, ks, qs, v1, v2, d1, d2, rfl, hD, hks, h1, h2, ok, qe, q⟩ := h
    have hu := hu_of hr
    refine ⟨_, (pss_cons (ps_set (i := 3) scWordAt.nd rfl (.inl rfl) (pe_callH G (hr.mono (by decide)) (by rfl) pass0 (pa_cons (pe_tup (pa_cons (pv 1) (pa_cons (pv 2) pa_nil))) pa_nil)))
      (pss_cons (ps_if (PW.pt (pw_or (pt_cmpR op_isN (pv 3) pe_non (nomark _)) (pw_or1 (pt_cmp (pc_dnotin hu (pv 3) (pv 0)) (by rfl))))) (pss_one (ps_err2 rfl (takes_of rfl rfl rfl rfl) S hr (by decide) (pv 1) (pv 2))) pss_nil)
      (pss_one (ps_ret (pe_dget hu (pv 0) (pv 3) (fun _ _ => rfl)))))), ?_⟩
    refine ⟨_, rfl, _, rfl, (by show 2 ≤ sizeLine; decide), fun t ht => ?_⟩
    have s0 := same_new (o := .tup [v1, v2]) ht
    refine ⟨t, v1, v2, d1, d2, rfl, SqT.of upd_same, th_same s0 h1, th_same s0 h2, ok, fun v8 H8 s8 hv8 => ?_⟩
    have s08 := s0.trans s8
    have D8 := s08 _ _ hD
    have hks8 := eachs_imp (fun _ _ => adrV_s (TupS.of s08)) hks
    have bad : wordAt qs d1 d2 = none → ∀ tp dx, H8 tp = none → upd H8 tp (.tup [v1, v2]) dx = none → E (.ref CN) (some dx) (upd (upd H8 tp (.tup [v1, v2])) dx (.xd [("k", v2), ("p", v1)])) := fun e tp dx htp hdx => qe e _ dx (s08.trans (same_new htp)) hdx
    cases er : adrOf d1 d2 with
    | none =>
      rw [er] at hv8
      obtain rfl : v8 = .non := hv8
      exact ⟨_, rfl, rfl, true, by decide, iteT (iteT ⟨_, rfl, _, rfl, err_go2 (bad (by unfold wordAt; rw [er]; rfl))⟩)⟩
    | some a0 =>
      rw [er] at hv8
      obtain ⟨r8, rfl, hr8⟩ := hv8
      refine ⟨_, rfl, rfl, false, by simp, ?_⟩
      cases ef : (adrs qs).find? (fun x => decide (adrK x = keyA a0)) with
      | none =>
        have ev := val_none hks8 ef
        have g := DGet.t (k := keyA a0) D8 hr8
        rw [ev] at g
        refine iteF ⟨_, rfl, _, rfl, D, _, rfl, g, ?_⟩
        refine ⟨true, rfl, iteT ⟨_, rfl, _, rfl, err_go2 (bad ?_)⟩⟩
        unfold wordAt
        rw [er]
        show wordOf qs (keyA a0) = none
        unfold wordOf
        rw [ef]
        rfl
      | some b =>
        obtain ⟨vv, ev, hs⟩ := val_word hks8 ef
        have g := DGet.t (k := keyA a0) D8 hr8
        rw [ev] at g
        refine iteF ⟨_, rfl, _, rfl, D, _, rfl, g, ?_⟩
        refine ⟨false, rfl, iteF ⟨_, rfl, _, rfl, D, vv, rfl, g, q b.2.2 ?_ _ _ s08 hs⟩⟩
        unfold wordAt
        rw [er]
        show wordOf qs (keyA a0) = _
        unfold wordOf
        rw [ef]
        rfl
theorem ok_wordM {f C CN : Addr} {fd : FuncData} (F : Fun K "word" "Image.word" sWordM f fd) (B : ImC K C) (G : Has P w K mg base (L2.CX P w) 5 "word_at" ["sums", "p", "k"] (spWordAt K CN)) : FnOk P w K mg base (L2.CX P w) 6 f fd ["self", "p", "k"] (spWordM K C CN) := by
  refine F.okX scWordM (fun vs H Q E h => ?_) (fun cdv A outer s H vs Q E hr h => ?_)
  · obtain ⟨x, qs, a0, v1, v2, d1, d2, rfl, _⟩ := h
    rfl
  · obtain ⟨x, qs, a0, v1, v2, d1, d2, rfl, ⟨_, dx, p, d, r, xs, ks, hx, hp, hxs, hd, hks, _⟩, h1, h2, ok, qe, q⟩ := h
    refine ⟨_, (pss_one (ps_ret (pe_callH G hr (by rfl) (passes_call (W := fun cls d _ H => E cls d H) (takes_of rfl rfl rfl rfl) (fun _ _ _ _ h => h)) (pa_cons (pe_fld (pv 0) rfl) (pa_cons (pv 1) (pa_cons (pv 2) pa_nil)))))), ?_⟩
    exact ⟨_, rfl, x, C, dx, _, _, rfl, hx, B.cl, B.n2, rfl, _, rfl, _, rfl, d, ks, qs, v1, v2, d1, d2, rfl, hd, hks, h1, h2, ok, qe, q⟩
end
end DR

namespace DR
open PySem PySem.Spec PyProof.Rows L2
/-! ### _law_word -/
theorem abs_isU (v u : List Key) (m : Int) : (m * isU v u).natAbs ≤ m.natAbs := by
  unfold isU
  split
  · simp
  · simp
theorem lin_abs (v : List Key) (b : Nat) : ∀ l : Mul, (∀ q ∈ l, q.2.natAbs ≤ b) → (lin (isU v) l).natAbs ≤ l.length * b
  | [], _ => by simp [lin]
  | q :: l, h => by
    have ih := lin_abs v b l fun q' hq => h q' (List.mem_cons_of_mem _ hq)
    have h1 : q.2.natAbs ≤ b := h q (List.mem_cons_self ..)
    have h2 := abs_isU v q.1 q.2
    have h3 := Int.natAbs_add_le (q.2 * isU v q.1) (lin (isU v) l)
    have e : (q :: l).length * b = l.length * b + b := by
      rw [List.length_cons, Nat.add_mul, Nat.one_mul]
    rw [e]
    show (q.2 * isU v q.1 + lin (isU v) l).natAbs ≤ _
    omega
theorem wd_of {n : Int} {l : Mul} (uk : ∀ u ∈ l.map (·.1), UkP u) (few : l.length ≤ 5) (mu : ∀ q ∈ l, q.2.natAbs ≤ 2048) (nz : Sz n) : WdOk n (form (accAll l)) := by
  have nm : ∀ u ∈ l.map (·.1), NmU u := fun u hu => (uk u hu).nmu
  refine ⟨form_nod (acc_nod l), form_keys (plusA_keys l [] uk (fun u hu => by simp at hu)), form_form (acc_nod l) (accA_nm nm), ?_, fun q hq => ?_, nz⟩
  · have h1 := form_len (accAll l)
    have h2 := accA_len l
    omega
  · unfold form at hq
    obtain ⟨u, _, rfl⟩ := List.mem_map.mp hq
    show Sz (getI (accAll l) u)
    rw [getI_acc]
    have h3 := lin_abs u 2048 l mu
    refine Nat.lt_of_le_of_lt h3 (Nat.lt_of_le_of_lt (Nat.mul_le_mul_right _ few) (by decide))
theorem wd_small {l : Mul} (few : l.length ≤ 5) (mu : ∀ q ∈ l, q.2.natAbs ≤ 2048) : ∀ q ∈ form (accAll l), q.2.natAbs ≤ 10240 := fun q hq => by
  unfold form at hq
  obtain ⟨u, _, rfl⟩ := List.mem_map.mp hq
  show (getI (accAll l) u).natAbs ≤ 10240
  rw [getI_acc]
  have h3 := lin_abs u 2048 l mu
  exact Nat.le_trans h3 (Nat.le_trans (Nat.mul_le_mul_right _ few) (by decide))
def OwnW (zs : List Str) (w : Int × Mul) : Prop := WdOk w.1 w.2 ∧ (∀ u ∈ w.2.map (·.1), ∃ z ∈ zs, u = [.inr sPiece, .inr z]) ∧ ∀ q ∈ w.2, q.2.natAbs ≤ 10240
def spLWord (K : PySem.W.Frag) : Sp := fun vs H Q _ => ∃ (p NL : Addr) (c : Nat) (zs : List Str), vs = [.ref p, .ref NL] ∧ Pool H p c ∧ c < 90000 ∧ H NL = some (.lst (zs.map V.str)) ∧ NL ≠ p ∧ 0 < zs.length ∧ zs.length ≤ 10 ∧ (∀ z ∈ zs, NmOk z) ∧
  ∀ v' w H' c', Dr p H H' → Pool H' p c' → c' ≤ c + 6 → SumP H' v' w → OwnW zs w → Q v' H'
abbrev sLWord : Stmt := topS 36
theorem scLWord : FnScope ["pool", "names", "pairs", "k"] ["pool", "names"] (defScope sLWord) := ⟨rfl, rfl, rfl, by decide +kernel, rfl, by decide +kernel, by decide +kernel⟩
abbrev tPart (K : PySem.W.Frag) : TE := tTup (tCons (tTup (tCons (tC (.str "piece")) (tCons (tCall (spOne K) [] E0 (tCons (tVar 0) (tCons (tVar 1) tNil))) tNil))) (tCons (tCall (spOne K) [] E0 (tCons (tVar 0) (tCons (tLst (tCons (tC (.int 1)) (tCons (tC (.int 2)) (tCons (tUn (rU fun i => .int (-i)) (tC (.int 1))) tNil)))) tNil))) tNil))
section
variable {P : Program} {w : World} {K : PySem.W.Frag} {mg : Str → Option Value} {base : Heap}
theorem ok_lword {f : Addr} {fd : FuncData} (F : Fun K "_law_word" "_law_word" sLWord f fd) (T : Bi mg) (GT : Has P w K mg base CX0 3 "_law_take" ["pool", "many"] spTake) (G1 : Has P w K mg base CX0 3 "_law_one" ["pool", "things"] (spOne K))
    (G3 : Has P w K mg base CX0 3 "_law_total" ["number", "pairs"] (spTotal K)) : FnOk P w K mg base CX0 4 f fd ["pool", "names"] (spLWord K) := by
  refine F.ok scLWord (fun vs H Q E h => ?_) (fun cdv A outer s H vs Q E hr h => ?_)
  · obtain ⟨p, NL, c, zs, rfl, _⟩ := h
    rfl
  · obtain ⟨p, NL, ck, zs, rfl, hP8, hc, hN8, NLp, hl0, hl1, okz, q⟩ := h
    have hu := hu_of hr
    refine ⟨_, (pss_cons (ps_setLc (i := 2) (own := [("k", 3)]) (g := gName 3) (tt := tYes) (te := tPart K) rfl scLWord.nd rfl rfl (sw_true rfl rfl rfl (by decide +kernel)) (pi_range1 (by rfl) T.range (pa_cons (pe_callH GT hr (by rfl) pass0 (pa_cons (pv 0) (pa_cons pe_int pa_nil))) pa_nil)) (blkOk_by (N := ["pool", "names", "pairs", "k"]) (sc := defScope sLWord) (by decide +kernel)) (fun _ _ _ _ _ => pg_name (i := 3) scLWord.nd rfl (.inl rfl)) (fun _ _ _ _ _ => pts_nil) (fun _ _ _ _ _ => (pe_tup (pa_cons (pe_tup (pa_cons pe_str (pa_cons (pe_callH G1 hr (by rfl) pass0 (pa_cons (pv 0) (pa_cons (pv 1) pa_nil))) pa_nil))) (pa_cons (pe_callH G1 hr (by rfl) pass0 (pa_cons (pv 0) (pa_cons (pe_lst (pa_cons pe_int (pa_cons pe_int (pa_cons (pe_un un_neg pe_int) pa_nil)))) pa_nil))) pa_nil)))))
      (pss_one (ps_ret (pe_callH G3 hr (by rfl) pass0 (pa_cons (pe_op op_sub (pe_callH GT hr (by rfl) pass0 (pa_cons (pv 0) (pa_cons pe_int pa_nil))) pe_int) (pa_cons (pv 2) pa_nil)))))), ?_⟩
    refine ⟨_, rfl, p, ck, 3, rfl, hP8, by omega, by decide, by decide, fun r3 o3 h30 h31 hP9 => ?_⟩
    have k89 : ∀ b x, b ≠ p → H b = some x → upd H p o3 b = some x := fun b x hb e => by rw [upd_ne hb]; exact e
    generalize upd H p o3 = H9 at k89 hP9 ⊢
    refine ⟨_, rfl, by omega, by omega, fun Dp hDp => ?_⟩
    have Dpp : Dp ≠ p := pool_ne hP9 hDp
    have hN9 := k89 _ _ NLp hN8
    have ND : NL ≠ Dp := ne_of_none hN9 hDp
    refine lc_range (lo := 0) (n := r3.toNat) (fun j Hj => (∀ b x, b ≠ p → b ≠ Dp → H9 b = some x → Hj b = some x) ∧ ∃ (ts : List V) (ps : Mul) (cj : Nat), Pool Hj p cj ∧ cj ≤ ck + 1 + 2 * j ∧ Hj Dp = some (.lst ts) ∧ ts.length = j ∧ PySem.W.EachIs (PartT Hj) ts ps ∧ ∀ q ∈ ps, (∃ z ∈ zs, q.1 = [.inr sPiece, .inr z]) ∧ q.2.natAbs ≤ 2048)
      ⟨fun b x _ hb e => by rw [upd_ne hb]; exact e, [], [], _, pool_new hP9 hDp, Nat.le_refl _, upd_same, rfl, .nil, fun _ h => by cases h⟩ ?_ ?_
    · rintro j Hj hj ⟨kpj, ts, ps, cj, hPj, hcj, hDj, hlt, hts, hps⟩
      have hNj := kpj _ _ NLp ND hN9
      refine ⟨rfl, yes_go (iteT ?_)⟩
      refine ⟨_, rfl, _, rfl, p, NL, cj, _, rfl, hPj, by omega, .inl (SqL.of hNj), NLp, (by rw [List.length_map]; omega), (by rw [List.length_map]; omega), fun v o hv hPa => ?_⟩
      obtain ⟨z2, hz2, rfl⟩ := List.mem_map.mp hv
      have ka : ∀ b x, b ≠ p → Hj b = some x → upd Hj p o b = some x := fun b x hb e => by rw [upd_ne hb]; exact e
      generalize upd Hj p o = Ha at ka hPa ⊢
      refine ⟨(by show 2 ≤ sizeLine; decide), fun e2 he2 => ?_⟩
      have e2p : e2 ≠ p := pool_ne hPa he2
      have sb := same_new (o := .tup [V.str "piece", V.str z2]) he2
      have hPb := pool_new (o := .tup [V.str "piece", V.str z2]) hPa he2
      have heb : upd Ha e2 (.tup [V.str "piece", V.str z2]) e2 = some (.tup [V.str "piece", V.str z2]) := upd_same
      generalize upd Ha e2 (.tup [V.str "piece", V.str z2]) = Hb at sb hPb heb ⊢
      refine ⟨_, rfl, _, rfl, (by show 3 ≤ sizeLine; decide), fun a5 ha5 => ?_⟩
      have a5p : a5 ≠ p := pool_ne hPb ha5
      have s5 := same_new (o := .lst [V.int 1, V.int 2, V.int (-1)]) ha5
      refine ⟨p, a5, _, _, rfl, pool_new hPb ha5, by omega, .inl (SqL.of upd_same), a5p, (by show 0 < 3; decide), (by show 3 < 1000000; decide), fun v o5 hm hP5 => ?_⟩
      obtain ⟨m, rfl, hm5⟩ : ∃ n : Int, v = .int n ∧ n.natAbs ≤ 2048 := by
        rcases List.mem_cons.mp hm with rfl | hm
        · exact ⟨_, rfl, by decide⟩
        rcases List.mem_cons.mp hm with rfl | hm
        · exact ⟨_, rfl, by decide⟩
        rcases List.mem_cons.mp hm with rfl | hm
        · exact ⟨_, rfl, by decide⟩
        · cases hm
      have kc : ∀ b x, b ≠ p → Hb b = some x → upd (upd Hb a5 (.lst [V.int 1, V.int 2, V.int (-1)])) p o5 b = some x := fun b x hb e => by
        rw [upd_ne hb]
        exact s5 _ _ e
      generalize upd (upd Hb a5 (.lst [V.int 1, V.int 2, V.int (-1)])) p o5 = Hc at kc hP5 ⊢
      refine ⟨(by show 2 ≤ sizeLine; decide), fun c6 hc6 => ?_⟩
      have s6 := same_new (o := .tup [V.ref e2, V.int m]) hc6
      have hP6' := pool_new (o := .tup [V.ref e2, V.int m]) hP5 hc6
      have hcc : upd Hc c6 (.tup [V.ref e2, V.int m]) c6 = some (.tup [V.ref e2, V.int m]) := upd_same
      generalize upd Hc c6 (.tup [V.ref e2, V.int m]) = Hd at s6 hP6' hcc ⊢
      have kd : ∀ b x, b ≠ p → Hj b = some x → Hd b = some x := fun b x hb e => s6 _ _ (kc _ _ hb (sb _ _ (ka _ _ hb e)))
      have hDd := kd _ _ Dpp hDj
      have tsd : TupS Hj Hd := fun c xs e => kd _ _ (fun zz => by
        obtain ⟨_, _, _, e2, _⟩ := hPj.ex
        rw [zz, e2] at e
        cases e) e
      have tsf : TupS Hd (upd Hd Dp (.lst (ts ++ [.ref c6]))) := TupS.put hDd (by intro xs z; cases z)
      refine ⟨ts, hDd, small1000 (by omega), fun b x h1 h2 e => by rw [upd_ne h2]; exact kd _ _ h1 (kpj _ _ h1 h2 e), ts ++ [.ref c6], ps ++ [([.inr sPiece, .inr z2], m)], _, pool_put hP6' Dpp.symm, by omega, upd_same, by simp [hlt], ?_, ?_⟩
      · exact eachs_snoc (R := PartT _) (show PartT _ (.ref c6) (([.inr sPiece, .inr z2] : List Key), m) from ⟨c6, e2, rfl, tsf _ _ hcc, tsf _ _ (s6 _ _ (kc _ _ e2p heb))⟩) (eachs_imp (fun _ _ => partT_s (tsd.trans tsf)) hts)
      · intro q hq
        rcases List.mem_append.mp hq with hq | hq
        · exact hps q hq
        · rw [List.mem_singleton.mp hq]
          exact ⟨⟨z2, hz2, rfl⟩, hm5⟩
    · rintro Hj ⟨kpj, ts, ps, cj, hPj, hcj, hDj, hlt, hts, hps⟩
      have few2 : ps.length ≤ 2 := by
        have := hts.length
        omega
      have kj : ∀ b x, b ≠ p → H b = some x → Hj b = some x := fun b x hb e => kpj _ _ hb (ne_of_none (k89 _ _ hb e) hDp) (k89 _ _ hb e)
      refine ⟨_, rfl, p, cj, 9, rfl, hPj, by omega, by decide, by decide, fun r1 o1 h10 h11 hPk => ?_⟩
      have kk : ∀ b x, b ≠ p → Hj b = some x → upd Hj p o1 b = some x := fun b x hb e => by rw [upd_ne hb]; exact e
      have tsk : TupS Hj (upd Hj p o1) := fun c xs e => kk _ _ (fun zz => by
        obtain ⟨_, _, _, e2, _⟩ := hPj.ex
        rw [zz, e2] at e
        cases e) e
      generalize upd Hj p o1 = Hk at kk tsk hPk ⊢
      have uk : ∀ u ∈ ps.map (·.1), UkP u := fun u hu => by
        obtain ⟨q, hq, rfl⟩ := List.mem_map.mp hu
        obtain ⟨⟨z2, hz2, e⟩, _⟩ := hps q hq
        exact ⟨z2, e, okz z2 hz2⟩
      refine ⟨_, _, rfl, rfl, _, rfl, _, Dp, ts, ps, rfl, .inl (SqL.of (kk _ _ Dpp hDj)), eachs_imp (fun _ _ => partT_s tsk) hts, fun u hu => (uk u hu).nmu, by omega, fun v' Hl sl hv' => ?_⟩
      have hPl : Pool Hl p (cj + 1) := by
        obtain ⟨a, b, z, e, r⟩ := hPk.ex
        exact ⟨a, b, z, sl _ _ e, r⟩
      refine q v' (r1 - 3, form (accAll ps)) Hl (cj + 1) (fun b x hb e => sl _ _ (kk _ _ hb (kj _ _ hb e))) hPl (by omega) hv' ⟨wd_of uk (by omega) (fun q hq => (hps q hq).2) ?_, form_keys (plusA_keys ps [] (fun u hu => ?_) (fun u hu => by simp at hu)), wd_small (by omega) fun q hq => (hps q hq).2⟩
      · show (r1 - 3).natAbs < 2 ^ 200
        have : (r1 - 3).natAbs < 200 := by omega
        exact Nat.lt_trans this (by decide)
      · obtain ⟨q, hq, rfl⟩ := List.mem_map.mp hu
        exact (hps q hq).1
end
end DR

namespace DR
open PySem PySem.Spec PyProof.Rows L2
/-! ### _law_pieces -/
theorem tups_dr {H H' : Hp} {p : Addr} {c : Nat} (hP : Pool H p c) (k : Dr p H H') : TupS H H' := fun b xs e => k _ _ (fun zz => by
  obtain ⟨_, _, _, e2, _⟩ := hP.ex
  rw [zz, e2] at e
  cases e) e
def OwnQ (zs : List Str) (q : Pk) : Prop := q.1 ∈ zs ∧ (q.2.1 = "code" ∨ q.2.1 = "data") ∧ q.2.2.length ≤ 3 ∧ ∀ w ∈ q.2.2, OwnW zs w
def spLPieces (K : PySem.W.Frag) : Sp := fun vs H Q _ => ∃ (p NL : Addr) (c : Nat) (zs : List Str), vs = [.ref p, .ref NL] ∧ Pool H p c ∧ c < 80000 ∧ H NL = some (.lst (zs.map V.str)) ∧ NL ≠ p ∧ 0 < zs.length ∧ zs.length ≤ 10 ∧ (∀ z ∈ zs, NmOk z) ∧
  ∀ F xs qs H' c', Dr p H H' → Pool H' p c' → c' ≤ c + 20 * zs.length → H F = none → H' F = some (.lst xs) → PySem.W.EachIs (PieceG H') xs qs → qs.map (·.1) = zs → (∀ q ∈ qs, OwnQ zs q) → Q (.ref F) H'
abbrev sLPieces : Stmt := topS 37
theorem scLPieces : FnScope ["pool", "names", "found", "p", "k"] ["pool", "names"] (defScope sLPieces) := ⟨rfl, rfl, rfl, by decide +kernel, rfl, by decide +kernel, by decide +kernel⟩
section
variable {P : Program} {w : World} {K : PySem.W.Frag} {mg : Str → Option Value} {base : Heap}
theorem ok_lpieces {f : Addr} {fd : FuncData} (F : Fun K "_law_pieces" "_law_pieces" sLPieces f fd) (T : Bi mg) (GT : Has P w K mg base CX0 4 "_law_take" ["pool", "many"] spTake) (G1 : Has P w K mg base CX0 4 "_law_one" ["pool", "things"] (spOne K))
    (G3 : Has P w K mg base CX0 4 "_law_word" ["pool", "names"] (spLWord K)) : FnOk P w K mg base CX0 5 f fd ["pool", "names"] (spLPieces K) := by
  refine F.ok scLPieces (fun vs H Q E h => ?_) (fun cdv A outer s H vs Q E hr h => ?_)
  · obtain ⟨p, NL, c, zs, rfl, _⟩ := h
    rfl
  · obtain ⟨p, NL, c, zs, rfl, hP, hc, hN, NLp, hl0, hl1, okz, q⟩ := h
    have hu := hu_of hr
    refine ⟨_, (pss_cons (ps_set (i := 2) scLPieces.nd rfl (.inl rfl) (pe_lst pa_nil))
      (pss_cons (ps_for PassesOwn.never rfl (pi_list (pv 1)) (pg_name (i := 3) scLPieces.nd rfl (.inl rfl)) (pss_one (ps_expr (pe_bm PySem.F.plainAttrs_list PySem.F.slot_list_append PySem.F.type_list_append mt_append (pv 2) (pa_cons (pe_tup (pa_cons (pv 3) (pa_cons (pe_callH G1 hr (by rfl) pass0 (pa_cons (pv 0) (pa_cons (pe_lst (pa_cons pe_str (pa_cons pe_str pa_nil))) pa_nil))) (pa_cons (pe_callTy call_tuple_of (by rfl) T.tuple (by decide +kernel) (pa_cons (pe_lc (own := [("k", 4)]) (g := gName 4) (tt := tYes) (te := tCall (spLWord K) [] E0 (tCons (tVar 0) (tCons (tVar 1) tNil))) rfl scLPieces.nd (pi_range1 (by rfl) T.range (pa_cons (pe_callH GT hr (by rfl) pass0 (pa_cons (pv 0) (pa_cons pe_int pa_nil))) pa_nil)) (blkOk_by (N := ["pool", "names", "found", "p", "k"]) (sc := defScope sLPieces) (by decide +kernel))
      (fun _ _ _ _ _ => pg_name (i := 4) scLPieces.nd rfl (.inl rfl)) (fun _ _ _ _ _ => pts_nil) (fun _ _ _ _ _ => pe_callH G3 hr (by rfl) pass0 (pa_cons (pv 0) (pa_cons (pv 1) pa_nil)))) pa_nil)) pa_nil)))) pa_nil)))))
      (pss_one (ps_ret (pv 2))))), ?_⟩
    refine ⟨(by show 0 ≤ sizeLine; decide), fun F0 hF0 => ?_⟩
    have Fp : F0 ≠ p := pool_ne hP hF0
    have sF := same_new (o := .lst []) hF0
    have hP4 := pool_new (o := .lst []) hP hF0
    have hF4 : upd H F0 (.lst []) F0 = some (.lst []) := upd_same
    have NF : NL ≠ F0 := ne_of_none hN hF0
    generalize upd H F0 (.lst []) = H4 at sF hP4 hF4 ⊢
    have hN4 := sF _ _ hN
    refine ⟨_, rfl, NL, rfl, ⟨_, SqL.of hN4⟩, ?_⟩
    refine for_it (walk_list (xs := zs.map V.str)) (fun i σ H' => ∃ (w3 w4 : Option V) (vs : List V) (qs : List Pk) (c' : Nat), σ = [some (.ref p), some (.ref NL), some (.ref F0), w3, w4] ∧ (∀ b x, b ≠ p → b ≠ F0 → H4 b = some x → H' b = some x) ∧ Pool H' p c' ∧ c' ≤ c + 20 * i ∧ H' F0 = some (.lst vs) ∧ vs.length = i ∧ PySem.W.EachIs (PieceG H') vs qs ∧ qs.map (·.1) = zs.take i ∧ ∀ q ∈ qs, OwnQ zs q)
      ⟨none, none, [], [], _, rfl, fun _ _ _ _ e => e, hP4, Nat.le_refl _, hF4, rfl, .nil, rfl, fun _ h => by cases h⟩ (fun i σ H' _ ⟨_, _, _, _, _, _, kp, _⟩ => SqL.of (kp _ _ NLp NF hN4)) ?_ ?_
    · rintro i y σ H' H5 hi ⟨w3, w4, vs, qs, c', rfl, kp, hP', hc', hF', hlv, hvs, hmap, hown⟩ ⟨rfl, hy⟩
      rw [List.length_map] at hi
      obtain ⟨z, hz, rfl⟩ : ∃ z, zs[i]? = some z ∧ y = V.str z := by
        rw [List.getElem?_map] at hy
        cases e : zs[i]? with
        | none => rw [e] at hy; cases hy
        | some z => rw [e] at hy; exact ⟨z, rfl, (Option.some.inj hy).symm⟩
      have hN5 := kp _ _ NLp NF hN4
      refine ⟨_, rfl, .inl ⟨rfl, _, SqL.of hF'⟩, _, rfl, _, rfl, (by show 2 ≤ sizeLine; decide), fun a5 ha5 => ?_⟩
      have a5p : a5 ≠ p := pool_ne hP' ha5
      have s5 := same_new (o := .lst [V.str "code", V.str "data"]) ha5
      refine ⟨p, a5, _, _, rfl, pool_new hP' ha5, by omega, .inl (SqL.of upd_same), a5p, (by show 0 < 2; decide), (by show 2 < 1000000; decide), fun v o5 hm hP6 => ?_⟩
      obtain ⟨kd, rfl, hkd⟩ : ∃ k : Str, v = .str k ∧ (k = "code" ∨ k = "data") := by
        rcases List.mem_cons.mp hm with rfl | hm
        · exact ⟨_, rfl, .inl rfl⟩
        rcases List.mem_cons.mp hm with rfl | hm
        · exact ⟨_, rfl, .inr rfl⟩
        · cases hm
      have k56 : Dr p H5 (upd (upd H5 a5 (.lst [V.str "code", V.str "data"])) p o5) := fun b x hb e => by
        rw [upd_ne hb]
        exact s5 _ _ e
      generalize upd (upd H5 a5 (.lst [V.str "code", V.str "data"])) p o5 = H6 at k56 hP6 ⊢
      refine ⟨_, rfl, p, _, 4, rfl, hP6, by omega, by decide, by decide, fun r4 o4 h40 h41 hP7 => ?_⟩
      have k67 : Dr p H6 (upd H6 p o4) := fun b x hb e => by rw [upd_ne hb]; exact e
      generalize upd H6 p o4 = H7 at k67 hP7 ⊢
      have k57 : Dr p H5 H7 := fun b x hb e => k67 _ _ hb (k56 _ _ hb e)
      refine ⟨_, rfl, by omega, by omega, fun Dp hDp => ?_⟩
      have Dpp : Dp ≠ p := pool_ne hP7 hDp
      have hN7 := k57 _ _ NLp hN5
      have ND : NL ≠ Dp := ne_of_none hN7 hDp
      refine lc_range (lo := 0) (n := r4.toNat) (fun j Hj => (∀ b x, b ≠ p → b ≠ Dp → H7 b = some x → Hj b = some x) ∧ ∃ (us : List V) (ws : List (Int × Mul)) (cj : Nat), Pool Hj p cj ∧ cj ≤ c' + 2 + 6 * j ∧ Hj Dp = some (.lst us) ∧ us.length = j ∧ PySem.W.EachIs (SumP Hj) us ws ∧ ∀ w ∈ ws, OwnW zs w)
        ⟨fun b x _ hb e => by rw [upd_ne hb]; exact e, [], [], _, pool_new hP7 hDp, by omega, upd_same, rfl, .nil, fun _ h => by cases h⟩ ?_ ?_
      · rintro j Hj hj ⟨kpj, us, ws, cj, hPj, hcj, hDj, hlu, hus, hws⟩
        have hNj := kpj _ _ NLp ND hN7
        refine ⟨rfl, yes_go (iteT ?_)⟩
        refine ⟨_, rfl, _, rfl, p, NL, cj, zs, rfl, hPj, by omega, hNj, NLp, hl0, hl1, okz, fun v' wd Hd cd kd' hPd hcd hsd hod => ?_⟩
        have hDd := kd' _ _ Dpp hDj
        have ts1 := tups_dr hPj kd'
        have ts2 : TupS Hd (upd Hd Dp (.lst (us ++ [v']))) := TupS.put hDd (by intro xs z; cases z)
        refine ⟨us, hDd, small1000 (by omega), fun b x h1 h2 e => by rw [upd_ne h2]; exact kd' _ _ h1 (kpj _ _ h1 h2 e), us ++ [v'], ws ++ [wd], _, pool_put hPd Dpp.symm, by omega, upd_same, by simp [hlu], ?_, ?_⟩
        · exact eachs_snoc (R := SumP _) (sumT_s ts2 hsd) (eachs_imp (fun _ _ => sumT_s (ts1.trans ts2)) hus)
        · intro x hx
          rcases List.mem_append.mp hx with hx | hx
          · exact hws x hx
          · rw [List.mem_singleton.mp hx]
            exact hod
      · rintro Hj ⟨kpj, us, ws, cj, hPj, hcj, hDj, hlu, hus, hws⟩
        have kj : Dr p H5 Hj := fun b x hb e => kpj _ _ hb (ne_of_none (k57 _ _ hb e) hDp) (k57 _ _ hb e)
        have hFj := kj _ _ Fp hF'
        refine ⟨Dp, us, rfl, .inl ⟨SqL.of hDj, fun tp htp => ⟨(by show 3 ≤ sizeLine; decide), fun t7 ht7 => ?_⟩⟩⟩
        have sA := same_new (o := .tup us) htp
        have hPA := pool_new (o := .tup us) hPj htp
        have htA : upd Hj tp (.tup us) tp = some (.tup us) := upd_same
        generalize upd Hj tp (.tup us) = HA at sA hPA htA ht7 ⊢
        have sB := same_new (o := .tup [V.str z, V.str kd, V.ref tp]) ht7
        have hPB := pool_new (o := .tup [V.str z, V.str kd, V.ref tp]) hPA ht7
        have htB : upd HA t7 (.tup [V.str z, V.str kd, V.ref tp]) t7 = some (.tup [V.str z, V.str kd, V.ref tp]) := upd_same
        generalize upd HA t7 (.tup [V.str z, V.str kd, V.ref tp]) = HB at sB hPB htB ⊢
        have sAB := sA.trans sB
        have hFB := sAB _ _ hFj
        have tsC : TupS HB (upd HB F0 (.lst (vs ++ [.ref t7]))) := TupS.put hFB (by intro xs z; cases z)
        have t5 := tups_dr hP' kj
        refine ⟨F0, vs, .ref t7, rfl, rfl, hFB, small1000 (by omega), ?_⟩
        refine ⟨_, _, vs ++ [.ref t7], qs ++ [(z, kd, ws)], _, rfl, fun b x h1 h2 e => ?_, pool_put hPB Fp.symm, by omega, upd_same, by simp [hlv], ?_, ?_, ?_⟩
        · rw [upd_ne h2]
          exact sAB _ _ (kj _ _ h1 (kp _ _ h1 h2 e))
        · exact eachs_snoc (R := PieceG _) ⟨t7, tp, us, rfl, tsC _ _ htB, tsC _ _ (sB _ _ htA), eachs_imp (fun _ _ => sumT_s ((TupS.of sAB).trans tsC)) hus⟩ (eachs_imp (fun _ _ => pieceG_s ((t5.trans (TupS.of sAB)).trans tsC)) hvs)
        · rw [List.map_append, hmap, List.take_add_one, hz]
          rfl
        · intro x hx
          rcases List.mem_append.mp hx with hx | hx
          · exact hown x hx
          · rw [List.mem_singleton.mp hx]
            have := hus.length
            exact ⟨List.mem_of_getElem? hz, hkd, by show ws.length ≤ 3; omega, hws⟩
    · rintro σ H' ⟨w3, w4, vs, qs, c', rfl, kp, hP', hc', hF', hlv, hvs, hmap, hown⟩
      rw [List.length_map] at hlv hc' hmap
      rw [List.take_length] at hmap
      exact ⟨_, rfl, q F0 vs qs H' c' (fun b x hb e => kp _ _ hb (ne_of_none e hF0) (sF _ _ e)) hP' hc' hF0 hF' hvs hmap hown⟩
end
end DR

namespace DR
open PySem PySem.Spec PyProof.Rows L2
/-! ### _law_codes -/
def AdT (H : Hp) (v : V) (a : Str × Int) : Prop := ∃ t, v = .ref t ∧ H t = some (.tup [.str a.1, .int a.2])
theorem adT_s {H H' : Hp} (e : TupS H H') {v : V} {a : Str × Int} (h : AdT H v a) : AdT H' v a := by
  obtain ⟨t, h1, h2⟩ := h
  exact ⟨t, h1, e _ _ h2⟩
def codesP (q : Pk) : List (Str × Int) := if q.2.1 = "code" then (List.range q.2.2.length).map fun (k : Nat) => (q.1, (k : Int)) else []
def codesOf (qs : List Pk) : List (Str × Int) := qs.flatMap codesP
def spCodes (K : PySem.W.Frag) : Sp := fun vs H Q _ => ∃ (L : Addr) (xs : List V) (qs : List Pk), vs = [.ref L] ∧ H L = some (.lst xs) ∧ PySem.W.EachIs (PieceG H) xs qs ∧ qs.length ≤ 10 ∧ (∀ q ∈ qs, q.2.2.length ≤ 10) ∧
  ∀ F ys H', Same H H' → H F = none → H' F = some (.lst ys) → PySem.W.EachIs (AdT H') ys (codesOf qs) → Q (.ref F) H'
abbrev sCodes : Stmt := topS 41
theorem scCodes : FnScope ["pieces", "found", "p", "kind", "words", "k"] ["pieces"] (defScope sCodes) := ⟨rfl, rfl, rfl, by decide +kernel, rfl, by decide +kernel, by decide +kernel⟩
theorem codesP_len (q : Pk) : (codesP q).length ≤ q.2.2.length := by
  unfold codesP
  split
  · rw [List.length_map, List.length_range]
    exact Nat.le_refl _
  · exact Nat.zero_le _
theorem each_app2 {α β : Type} {R : α → β → Prop} : ∀ {xs ys : List α} {as bs : List β}, PySem.W.EachIs R xs as → PySem.W.EachIs R ys bs → PySem.W.EachIs R (xs ++ ys) (as ++ bs)
  | _, _, _, _, .nil, h => h
  | _, _, _, _, .cons h t, g => .cons h (each_app2 t g)
section
variable {P : Program} {w : World} {K : PySem.W.Frag} {mg : Str → Option Value} {base : Heap}
theorem ok_codes {f : Addr} {fd : FuncData} (F : Fun K "_law_codes" "_law_codes" sCodes f fd) (T : Bi mg) : FnOk P w K mg base CX0 1 f fd ["pieces"] (spCodes K) := by
  refine F.ok scCodes (fun vs H Q E h => ?_) (fun cdv A outer s H vs Q E hr h => ?_)
  · obtain ⟨L, xs, qs, rfl, _⟩ := h
    rfl
  · obtain ⟨L, xs, qs, rfl, hL, hxs, few, fewW, q⟩ := h
    have hu := hu_of hr
    refine ⟨_, (pss_cons (ps_set (i := 1) scCodes.nd rfl (.inl rfl) (pe_lst pa_nil))
      (pss_cons (ps_for PassesOwn.never rfl (pi_list (pv 0)) (pg_tup rfl (pgs_cons (pg_name (i := 2) scCodes.nd rfl (by first | exact .inl rfl | exact .inr rfl)) (pgs_cons (pg_name (i := 3) scCodes.nd rfl (by first | exact .inl rfl | exact .inr rfl)) (pgs_cons (pg_name (i := 4) scCodes.nd rfl (by first | exact .inl rfl | exact .inr rfl)) pgs_nil)))) (pss_one (ps_expr (pe_bm PySem.F.plainAttrs_list PySem.F.slot_list_extend PySem.F.type_list_extend mt_extend (pv 1) (pa_cons (pe_lc (own := [("k", 5)]) (g := gName 5) (tt := _) (te := tTup (tCons (tVar 2) (tCons (tVar 5) tNil))) rfl scCodes.nd (pi_range1 (by rfl) T.range (pa_cons (pe_callB call_len_seq (by rfl) T.len (by decide +kernel) (pa_cons (pv 4) pa_nil)) pa_nil)) (blkOk_by (N := ["pieces", "found", "p", "kind", "words", "k"]) (sc := defScope sCodes) (by decide +kernel))
      (fun _ _ _ _ _ => pg_name (i := 5) scCodes.nd rfl (.inl rfl)) (fun _ _ _ _ _ => pts_one (pt_cmpR op_eq (pv 3) pe_str (nomark _))) (fun _ _ _ _ _ => pe_tup (pa_cons (pv 2) (pa_cons (pv 5) pa_nil)))) pa_nil)))))
      (pss_one (ps_ret (pv 1))))), ?_⟩
    have lx : xs.length = qs.length := hxs.length
    refine ⟨(by show 0 ≤ sizeLine; decide), fun F0 hF0 => ?_⟩
    have sF := same_new (o := .lst []) hF0
    have hF4 : upd H F0 (.lst []) F0 = some (.lst []) := upd_same
    have LF : L ≠ F0 := ne_of_none hL hF0
    generalize upd H F0 (.lst []) = H4 at sF hF4 ⊢
    have hL4 := sF _ _ hL
    refine ⟨_, rfl, L, rfl, ⟨_, SqL.of hL4⟩, ?_⟩
    refine for_it (walk_list (xs := xs)) (fun i σ H' => ∃ (w2 w3 w4 w5 : Option V) (vs : List V), σ = [some (.ref L), some (.ref F0), w2, w3, w4, w5] ∧ (∀ b x, b ≠ F0 → H b = some x → H' b = some x) ∧ H' F0 = some (.lst vs) ∧ vs.length ≤ 10 * i ∧ PySem.W.EachIs (AdT H') vs (codesOf (qs.take i)))
      ⟨none, none, none, none, [], rfl, fun _ _ _ e => sF _ _ e, hF4, Nat.zero_le _, .nil⟩ (fun i σ H' _ ⟨_, _, _, _, _, _, kp, _⟩ => SqL.of (kp _ _ LF hL)) ?_ ?_
    · rintro i y σ H' H5 hi ⟨w2, w3, w4, w5, vs, rfl, kp, hF', hlv, hvs⟩ ⟨rfl, hy⟩
      obtain ⟨pc, hpc, hp⟩ := eachs_get hxs hy
      have s5 : Same H H5 := fun c o e => kp c o (ne_of_none e hF0) e
      have pfew := fewW pc (List.mem_of_getElem? hpc)
      obtain ⟨t, b, ws, rfl, ht, hb, hws⟩ := pieceG_s (TupS.of s5) hp
      have lw : ws.length = pc.2.2.length := hws.length
      refine ⟨t, _, rfl, SqT.of ht, rfl, _, _, rfl, _, _, rfl, _, _, rfl, rfl, ?_⟩
      refine ⟨_, rfl, .inl ⟨rfl, _, SqL.of hF'⟩, _, rfl, b, ws, rfl, .inr (SqT.of hb), _, rfl, by omega, by omega, fun Dp hDp => ?_⟩
      have FD : F0 ≠ Dp := ne_of_none hF' hDp
      refine lc_range (lo := 0) (n := ws.length) (fun j Hj => Same H5 Hj ∧ ∃ (us : List V), Hj Dp = some (.lst us) ∧ us.length ≤ j ∧ PySem.W.EachIs (AdT Hj) us (if pc.2.1 = "code" then (List.range j).map fun (k : Nat) => (pc.1, (k : Int)) else []))
        ⟨same_new hDp, [], upd_same, Nat.le_refl _, by simp; exact .nil⟩ ?_ ?_
      · rintro j Hj hj ⟨sj, us, hDj, hlu, hus⟩
        have tj : TupS H5 Hj := TupS.of sj
        refine ⟨rfl, _, rfl, rfl, ?_⟩
        by_cases hc : pc.2.1 = "code"
        · rw [if_pos hc] at hus
          rw [hc]
          rw [show decide (V.str "code" = V.str "code") = true from by decide +kernel]
          refine ⟨_, rfl, iteT ⟨_, rfl, _, rfl, (by show 2 ≤ sizeLine; decide), fun u hu1 => ?_⟩⟩
          have s1 := same_new (o := .tup [V.str pc.1, V.int (0 + (j : Int))]) hu1
          have h1D := s1 _ _ hDj
          have huD : upd Hj u (.tup [V.str pc.1, V.int (0 + (j : Int))]) u = some (.tup [V.str pc.1, V.int (0 + (j : Int))]) := upd_same
          generalize upd Hj u (.tup [V.str pc.1, V.int (0 + (j : Int))]) = Hk at s1 h1D huD ⊢
          have ts2 : TupS Hk (upd Hk Dp (.lst (us ++ [V.ref u]))) := TupS.put h1D (by intro xs z; cases z)
          refine ⟨us, h1D, small1000 (by omega), fun b x e => by rw [upd_ne (ne_of_none e hDp)]; exact s1 _ _ (sj _ _ e), us ++ [.ref u], upd_same, by simp; omega, ?_⟩
          rw [if_pos rfl, List.range_succ, List.map_append]
          refine eachs_snoc (R := AdT _) ⟨u, rfl, ?_⟩ (eachs_imp (fun _ _ => adT_s ((TupS.of s1).trans ts2)) hus)
          rw [ts2 _ _ huD]
          simp
        · rw [if_neg hc] at hus
          rw [show decide (V.str pc.2.1 = V.str "code") = false from by simp [hc]]
          exact ⟨_, rfl, iteF ⟨sj, us, hDj, by omega, by rw [if_neg hc]; exact hus⟩⟩
      · rintro Hj ⟨sj, us, hDj, hlu, hus⟩
        have hFj := sj _ _ hF'
        have ts3 : TupS Hj (upd Hj F0 (.lst (vs ++ us))) := TupS.put hFj (by intro xs z; cases z)
        refine ⟨F0, Dp, vs, us, rfl, rfl, hFj, hDj, Nat.le_of_lt (small1000 (by omega)), ?_⟩
        refine ⟨_, _, _, _, vs ++ us, rfl, fun b x hb e => by rw [upd_ne hb]; exact sj _ _ (kp _ _ hb e), upd_same, by rw [List.length_append]; omega, ?_⟩
        rw [List.take_add_one, hpc]
        have e : codesOf (qs.take i ++ [pc]) = codesOf (qs.take i) ++ codesP pc := by simp [codesOf]
        show PySem.W.EachIs _ _ (codesOf (qs.take i ++ [pc]))
        rw [e]
        refine each_app2 (eachs_imp (fun _ _ => adT_s ((TupS.of sj).trans ts3)) hvs) ?_
        rw [lw] at hus
        exact eachs_imp (fun _ _ => adT_s ts3) hus
    · rintro σ H' ⟨w2, w3, w4, w5, vs, rfl, kp, hF', hlv, hvs⟩
      rw [lx, List.take_length] at hvs
      exact ⟨_, rfl, q F0 vs H' (fun b x e => kp _ _ (ne_of_none e hF0) e) hF0 hF' hvs⟩
end
end DR

namespace DR
open PySem PySem.Spec PyProof.Rows L2
/-! ### != by an own == -/
section
open PySem.W
variable {prog : Program} {w : World} {A : Around} {E : Value → Shared → Prop} {s : Shared} {K : Frag} {x C f : Addr} {ox : Obj} {od : Option Obj} {b : Value}
theorem ifBound_slotK {M : Model} {args : List Value} {Q : Option Value → Shared → Prop} (X : K.In s.heap) (I : InstAt s.heap x ox C od) (hs : findIn K (.ref C) "__ne__" = some (some (.builtin "object.__ne__")))
    (h : wpAny M A (call (.builtin "object.__ne__") (.ref x :: args)) (fun v => Q (some v)) E s) : wpAny M A (callSpecialIfBound? (.ref x) "__ne__" args) Q E s := by
  simp only [callSpecialIfBound?, bindSpecialIfBound?]
  refine wpAny_holding (wpAny_bind (wpAny_bind (wpAny_bind (I.type.here ((looks_findIn X hs).here ?_)))))
  simp only [PySem.F.slot_enumerate_ne.bind]
  refine wpAny_bind (wpAny_askSetting (wpAny_ite ?_))
  have fin : wpAny M A (call (.builtin "object.__ne__") ([.ref x] ++ args) >>= fun v => pure (some v)) Q E s := wpAny_bind (wpAny_mono h (fun v s' h' => wpAny_pure h') fun _ _ h' => h')
  split
  · exact wpAny_bind (wpAny_pure (wpAny_pure fin))
  · exact wpAny_tryCatch (wpAny_bind (wpAny_pure (wpAny_pure fin)))
theorem check_slotK {M : Model} {rest : List Value} {Q : Unit → Shared → Prop} (X : K.In s.heap) (I : InstAt s.heap x ox C od) (hm : mroIn K C (.type "object") = some true)
    (ha : argsOk "object.__ne__" ⟨.ref x :: rest, []⟩) (hq : Q () s) : wpAny M A (checkBuiltinCall "object.__ne__" ⟨.ref x :: rest, []⟩) Q E s := by
  simp only [checkBuiltinCall, F.cmpKind_ne, F.cmpSplit_ne]
  refine wpAny_bind ?_
  unfold isInstance
  refine wpAny_bind (I.type.here ((looks_mroIn X hm).here ?_))
  simp only [Bool.not_true, Bool.false_eq_true, if_false]
  cases hsig : Manifest.signature? "object.__ne__" with
  | none => first | exact wpAny_pure hq | exact wpAny_pure (wpAny_pure hq) | exact wpAny_bind (wpAny_pure (wpAny_pure hq))
  | some sig =>
    simp only [argsOk, hsig] at ha
    have h2 : Bind.checkArgs "object.__ne__" sig ⟨.ref x :: rest, []⟩ = pure () := ha
    first
    | (show wpAny M A (Bind.checkArgs "object.__ne__" sig ⟨.ref x :: rest, []⟩) Q E _
       rw [h2]; exact wpAny_pure hq)
    | (refine wpAny_pure ?_
       show wpAny M A (Bind.checkArgs "object.__ne__" sig ⟨.ref x :: rest, []⟩) Q E _
       rw [h2]; exact wpAny_pure hq)
theorem objNeK (X : K.In s.heap) (I : InstAt s.heap x ox C od) (hs : findIn K (.ref C) "__eq__" = some (some (.ref f))) (hf : isFn K (.ref f) = true) (hu : A.units < cLine) {Q : Fin → Shared → Prop}
    (hcall : wpAny (model prog w) A (call (.ref f) [.ref x, b]) (fun v s' => ∃ r, v = .bool r ∧ Q (.done (.ret (.bool (!r)))) s') E s) : wpAny (model prog w) A (Builtin.«object.__ne__» ⟨[.ref x, b], []⟩) Q E s := by
  unfold Builtin.«object.__ne__»
  repeat (first
    | with_reducible refine wpAny_cRoomFor hu ?_
    | (refine wpAny_bind (m := callSpecialIfBound? (.ref x) (Str.ofString "__eq__") [b])
        (ifBound_K X I hs hf (wpAny_mono hcall (fun r s' hr => by
          obtain ⟨b, rfl, hq⟩ := hr
          repeat (first | exact hq | exact wpAny_pure hq | exact wpAny_truthy_bool hq | (refine wpAny_bind (m := truthy (.bool _)) (wpAny_truthy_bool ?_)) | wp_step)) fun _ _ e => e)))
    | wp_step)
theorem ne_K {Q : Value → Shared → Prop} (X : K.In s.heap) (I : InstAt s.heap x ox C od) (hb : Looks (model prog w) s.heap (typeOf b) (.ref C)) (hne : findIn K (.ref C) "__ne__" = some (some (.builtin "object.__ne__"))) (hm : mroIn K C (.type "object") = some true)
    (hs : findIn K (.ref C) "__eq__" = some (some (.ref f))) (hf : isFn K (.ref f) = true) (hu : A.units + 1 < cLine)
    (h : wpAny (model prog w) A.in1 (call (.ref f) [.ref x, b]) (fun v s' => ∃ r, v = .bool r ∧ Q (.bool (!r)) s') E s) : wpAny (model prog w) A (richCompare .NotEq (.ref x) b) Q E s := by
  have one : wpAny (model prog w) A (tryCompare (.ref x) "__ne__" b) (fun r s' => ∃ v, r = some v ∧ Q v s') E s := by
    unfold tryCompare
    refine wpAny_bind (ifBound_slotK X I hne (wpAny_call (codeAny_call_builtin PySem.F.slot_enumerate_ne.plain PySem.F.cmpEntry_ne (check_slotK X I hm (PySem.F.cmpArgs_ne _ _) (objNeK (A := A.in1) X I hs hf hu (wpAny_mono h (fun v s' hv => ?_) fun _ _ e => e))))))
    obtain ⟨r, rfl, hq⟩ := hv
    exact ⟨r, rfl, wpAny_pure ⟨_, rfl, hq⟩⟩
  unfold richCompare
  simp only [oneThing_ref]
  refine wpAny_holding (wpAny_bind (wpAny_cRoomFor (Nat.lt_of_succ_lt hu) ?_))
  rw [cmpInfo_NotEq]
  dsimp only
  refine wpAny_bind (I.type.here (wpAny_bind (hb.here ?_)))
  rw [show (Value.ref C != Value.ref C) = false from by simp]
  simp only [Bool.false_eq_true, if_false]
  refine wpAny_bind (wpAny_pure ?_)
  simp only [Bool.false_eq_true, if_false]
  refine wpAny_bind (wpAny_mono one (fun r s' z => ?_) fun _ _ e => e)
  obtain ⟨v, rfl, hq⟩ := z
  exact wpAny_pure hq
end
end DR

namespace DR
open PySem PySem.Spec PyProof.Rows L2
/-! ### images compared -/
structure ImQ (K : PySem.W.Frag) (C fe : Addr) : Prop where
  cls : PySem.W.findIn K (.ref C) "__class__" = some (some (.builtin "object.__class__"))
  spc : PySem.W.specialIn K (.builtin "object.__class__") "__get__" = some (some (.builtin "getset_descriptor.__get__"))
  tks : PySem.W.takesIn K (.builtin "object.__class__") = some true
  mro : PySem.W.mroIn K C (.type "object") = some true
  kit : PySem.W.kitOne K (.ref C) (.ref C) = some true
  kno : ∀ n ∈ tyNs, PySem.W.kitOne K (.type n) (.ref C) = some false
  nf : ∀ n ∈ tyNs, PySem.W.notFirst K C (.type n) = true
  ne : PySem.W.findIn K (.ref C) "__ne__" = some (some (.builtin "object.__ne__"))
  eq : PySem.W.findIn K (.ref C) "__eq__" = some (some (.ref fe))
  fn : PySem.W.isFn K (.ref fe) = true
theorem insTy {K : PySem.W.Frag} {H : Hp} {C a fe dx : Addr} {fs : List (Str × V)} (B : Cls K C) (D : ImQ K C fe) (h : H a = some (.ins C dx fs)) : TyX K H (.ref a) (.ref C) := .base (.ins h B D.cls D.spc D.tks D.mro)
/-- x == y, x such a draft -/
def rEqA (K : PySem.W.Frag) (C : Addr) (sp : Sp) (E : XK) : R2 := fun x y H Q => ∃ a dx fs t, x = .ref a ∧ H a = some (.ins C dx fs) ∧ TyX K H y t ∧ PySem.W.notFirst K C t = true ∧ sp [x, y] H Q E
theorem op_eqA {X : Cx} {n : Nat} {CX : CXT} {C f : Addr} {fd : FuncData} {ps : List Str} {sp : Sp} {E : XK} (F : FnOk X.prog X.w X.K X.mg X.base CX n f fd ps sp) (hs : PySem.W.findIn X.K (.ref C) "__eq__" = some (some (.ref f))) (hf : PySem.W.isFn X.K (.ref f) = true) (hb : Binds X.K fd ps []) (hx : Passes CX X E) (hr : Room n X.A) : OpR X (compareOp .Eq) (rEqA X.K C sp E) := by
  intro pins s σ H x y v u Q I rx ry hq
  obtain ⟨a, dx, fs, t, rfl, ha, ty, hn, hsp⟩ := hq
  cases rx
  obtain ⟨mA, J, _⟩ := ins_get I.hok ha
  obtain ⟨od, J, _⟩ := J.look
  obtain ⟨Pt, kx, hP, _⟩ := kit_of I ry ty
  obtain ⟨m, hF⟩ := I.fr
  show wpAny (model X.prog X.w) X.A (richCompare .Eq (.ref a) u) (EP X pins σ Q) X.xe s
  refine PySem.W.cmp_K (op := .Eq) (tb := t) hr.units0 hF I.ok.mod.kin J (kx.ty _ _ I.kIn hP) hn hs hf ?_
  have e0 := I.env0
  have hl := F.len _ _ _ _ hsp
  have r2 : Vals [V.ref a, y] [Value.ref a, u] := .cons rfl (.cons ry .nil)
  refine wpAny_call (codeAny_mono (F.run X.A X.stack s H ⟨[.ref a, u], []⟩ [.ref a, u] [.ref a, y] _ E hr e0 (by
    have := hb s [.ref a, u] I.kIn (by simpa using hl)
    simpa using this) r2 hsp) fun r s' hq => ?_)
  cases r with
  | error e => exact hx pins σ H s e s' I hq
  | ok fl =>
    cases fl with
    | ret w =>
      obtain ⟨z, H', I', rz, q⟩ := I.after hq
      exact SlX.cmpback (P := EP X pins σ Q) rz ⟨z, H', I', rz, q⟩
    | next => exact False.elim hq
    | brk => exact False.elim hq
    | cont => exact False.elim hq
/-- x != y of two such drafts -/
def rNeA (C : Addr) (sp : Sp) (E : XK) : R2 := fun x y H Q => ∃ a b dx dy fs gs, x = .ref a ∧ y = .ref b ∧ H a = some (.ins C dx fs) ∧ H b = some (.ins C dy gs) ∧ sp [x, y] H (fun z H' => ∃ k, z = .bl k ∧ Q (.bl (!k)) H') E
theorem op_neA {X : Cx} {n : Nat} {CX : CXT} {C f : Addr} {fd : FuncData} {ps : List Str} {sp : Sp} {E : XK} (F : FnOk X.prog X.w X.K X.mg X.base CX n f fd ps sp) (D : ImQ X.K C f) (hb : Binds X.K fd ps []) (hx : Passes CX X E) (hr : Room (n + 1) X.A) (hu : X.A.units + 1 < cLine) : OpR X (compareOp .NotEq) (rNeA C sp E) := by
  intro pins s σ H x y v u Q I rx ry hq
  obtain ⟨a, b, dx, dy, fs, gs, rfl, rfl, ha, hb', hsp⟩ := hq
  cases rx
  cases ry
  obtain ⟨mA, J, _⟩ := ins_get I.hok ha
  obtain ⟨mB, J', _⟩ := ins_get I.hok hb'
  obtain ⟨od, J, _⟩ := J.look
  obtain ⟨od', J', _⟩ := J'.look
  show wpAny (model X.prog X.w) X.A (richCompare .NotEq (.ref a) (.ref b)) (EP X pins σ Q) X.xe s
  refine ne_K I.kIn J J'.type D.ne D.mro D.eq D.fn hu ?_
  have e0 : Env0 X.prog X.w X.K X.mg X.base X.A.in1 X.stack s H := by
    have e := I.env0
    exact ⟨e.frames, e.mod, e.bs, e.bsz, e.funs, e.frf, e.hok, e.bare⟩
  have hl := F.len _ _ _ _ hsp
  have r2 : Vals [V.ref a, V.ref b] [Value.ref a, Value.ref b] := .cons rfl (.cons rfl .nil)
  refine wpAny_call (codeAny_mono (F.run X.A.in1 X.stack s H ⟨[.ref a, .ref b], []⟩ [.ref a, .ref b] [.ref a, .ref b] _ E hr.in1 e0 (by
    have := hb s [.ref a, .ref b] I.kIn (by simpa using hl)
    simpa using this) r2 hsp) fun r s' hq => ?_)
  cases r with
  | error e => exact hx pins σ H s e s' I hq
  | ok fl =>
    cases fl with
    | ret w =>
      obtain ⟨z, H', I', rz, k, ez, q⟩ := I.after hq
      subst ez
      cases rz
      exact ⟨k, rfl, .bl (!k), H', I', rfl, q⟩
    | next => exact False.elim hq
    | brk => exact False.elim hq
    | cont => exact False.elim hq
def rLenA (C : Addr) (sp : Sp) (E : XK) : List V → Hp → VK → Prop := fun xs H Q => ∃ a dx fs, xs = [.ref a] ∧ H a = some (.ins C dx fs) ∧ sp [.ref a] H (fun z H' => ∃ n : Nat, z = .int (n : Nat) ∧ n ≤ 1000000 ∧ Q (.int (n : Nat)) H') E
theorem call_lenA {X : Cx} {n : Nat} {CX : CXT} {C f : Addr} {fd : FuncData} {ps : List Str} {sp : Sp} {E : XK} (F : FnOk X.prog X.w X.K X.mg X.base CX n f fd ps sp) (hs : PySem.W.findIn X.K (.ref C) "__len__" = some (some (.ref f))) (hf : PySem.W.isFn X.K (.ref f) = true) (hb : Binds X.K fd ps []) (hx : Passes CX X E) (hr : Room (n + 1) X.A) : CallR X (.builtin "len") (rLenA C sp E) := by
  intro pins s σ H xs us Q I r h
  obtain ⟨a, dx, fs, rfl, ha, hsp⟩ := h
  obtain ⟨u, rfl, rx⟩ := vals1 r
  cases rx
  obtain ⟨mA, J, _⟩ := ins_get I.hok ha
  obtain ⟨od, J, _⟩ := J.look
  obtain ⟨m, hF⟩ := I.fr
  refine PySem.W.len_K hF I.ok.mod.kin J hs hf ?_
  have e0 : Env0 X.prog X.w X.K X.mg X.base X.A.in1 X.stack s H := by
    have e := I.env0
    exact ⟨e.frames, e.mod, e.bs, e.bsz, e.funs, e.frf, e.hok, e.bare⟩
  have hl := F.len _ _ _ _ hsp
  have r2 : Vals [V.ref a] [Value.ref a] := .cons rfl .nil
  refine wpAny_call (codeAny_mono (F.run X.A.in1 X.stack s H ⟨[.ref a], []⟩ [.ref a] [.ref a] _ E hr.in1 e0 (by
    have := hb s [.ref a] I.kIn (by simpa using hl)
    simpa using this) r2 hsp) fun r s' hq => ?_)
  cases r with
  | error e => exact hx pins σ H s e s' I hq
  | ok fl =>
    cases fl with
    | ret w =>
      obtain ⟨z, H', I', rz, k, ez, hk, q⟩ := I.after hq
      subst ez
      obtain ⟨t, e⟩ := (show ∃ t, w = Value.int (k : Nat) t from rz)
      cases e
      refine ⟨⟨by omega, by omega⟩, .int (k : Nat), H', I'.tok _, ⟨_, rfl⟩, q⟩
    | next => exact False.elim hq
    | brk => exact False.elim hq
    | cont => exact False.elim hq
end DR

namespace DR
open PySem PySem.Spec PyProof.Rows L2
/-! ### == of images -/
def pkD (q : Pk) : PyData := .tuple [.str q.1, .str q.2.1, .tuple (q.2.2.map fun w => sumD w.1 w.2)]
def partsD (qs : List Pk) : PyData := .tuple (qs.map pkD)
def adD (a : Str × Int) : PyData := .tuple [.str a.1, .int a.2]
def sameI (qs : List Pk) (a0 : Str × Int) (qs' : List Pk) (b0 : Str × Int) : Bool := PyData.eqv (partsD qs) (partsD qs') && PyData.eqv (adD a0) (adD b0)
theorem sums_dp {K : PySem.W.Frag} {H : Hp} : ∀ {vs : List V} {ws : List (Int × Mul)}, PySem.W.EachIs (SumP H) vs ws → DpAll K H vs (ws.map fun w => sumD w.1 w.2)
  | _, _, .nil => .nil
  | _, _, .cons h t => .cons (sumT_dp h) (sums_dp t)
theorem pieceG_dp {K : PySem.W.Frag} {H : Hp} {v : V} {q : Pk} (h : PieceG H v q) : Dp K H v (pkD q) := by
  obtain ⟨a, b, ws, rfl, h1, h2, h3⟩ := h
  exact .tup (SqT.of h1) (.cons (.str _) (.cons (.str _) (.cons (.tup (SqT.of h2) (sums_dp h3)) .nil)))
theorem pieces_dp {K : PySem.W.Frag} {H : Hp} : ∀ {vs : List V} {qs : List Pk}, PySem.W.EachIs (PieceG H) vs qs → DpAll K H vs (qs.map pkD)
  | _, _, .nil => .nil
  | _, _, .cons h t => .cons (pieceG_dp h) (pieces_dp t)
def NmQ (qs : List Pk) : Prop := ∀ q ∈ qs, ∀ w ∈ q.2.2, ∀ u ∈ w.2.map (·.1), NmU u
theorem sums_plain : ∀ {ws : List (Int × Mul)}, (∀ w ∈ ws, ∀ u ∈ w.2.map (·.1), NmU u) → PyData.plainAll (ws.map fun w => sumD w.1 w.2) = true
  | [], _ => rfl
  | w :: ws, h => by
    have h1 := plain_sumD (n := w.1) (h w (List.mem_cons_self ..))
    have h2 := sums_plain fun w' hw => h w' (List.mem_cons_of_mem _ hw)
    rw [List.map_cons]
    simp [PyData.plainAll, h1, h2]
theorem sum_depth {n : Int} {ps : Mul} (h : ∀ u ∈ ps.map (·.1), NmU u) : (sumD n ps).depth ≤ 8 := by
  have go : ∀ ps : Mul, (∀ u ∈ ps.map (·.1), NmU u) → PyData.depthAll (ps.map partD) ≤ 5 := fun ps => by
    induction ps with
    | nil => exact fun _ => by simp [PyData.depthAll]
    | cons q l ih =>
      intro hn
      have h2 := ih fun u hu => hn u (List.mem_cons_of_mem _ hu)
      obtain ⟨k, o, e, _⟩ := hn q.1 (List.mem_cons_self ..)
      have h3 : (partD q).depth ≤ 5 := by
        unfold partD
        rw [e]
        cases o <;> simp [unkD, keyDat, PyData.depth, PyData.depthAll]
      rw [List.map_cons, PyData.depthAll]
      exact Nat.max_le.mpr ⟨h3, h2⟩
  have := go ps h
  simp only [sumD, PyData.depth, PyData.depthAll]
  omega
theorem sums_depth : ∀ {ws : List (Int × Mul)}, (∀ w ∈ ws, ∀ u ∈ w.2.map (·.1), NmU u) → PyData.depthAll (ws.map fun w => sumD w.1 w.2) ≤ 8
  | [], _ => by simp [PyData.depthAll]
  | w :: ws, h => by
    rw [List.map_cons, PyData.depthAll]
    exact Nat.max_le.mpr ⟨sum_depth (h w (List.mem_cons_self ..)), sums_depth fun w' hw => h w' (List.mem_cons_of_mem _ hw)⟩
theorem pk_plain : ∀ {qs : List Pk}, NmQ qs → PyData.plainAll (qs.map pkD) = true ∧ PyData.depthAll (qs.map pkD) ≤ 12
  | [], _ => ⟨rfl, by simp [PyData.depthAll]⟩
  | q :: qs, h => by
    have h1 := sums_plain (h q (List.mem_cons_self ..))
    have h2 := sums_depth (h q (List.mem_cons_self ..))
    obtain ⟨g1, g2⟩ := pk_plain (qs := qs) fun q' hq => h q' (List.mem_cons_of_mem _ hq)
    rw [List.map_cons]
    refine ⟨by simp [PyData.plainAll, pkD, PyData.plain, h1, g1], ?_⟩
    rw [PyData.depthAll]
    refine Nat.max_le.mpr ⟨?_, g2⟩
    simp only [pkD, PyData.depth, PyData.depthAll]
    omega
theorem parts_plain {qs : List Pk} (h : NmQ qs) : (partsD qs).plain = true := by
  have := (pk_plain h).1
  simp [partsD, PyData.plain, this]
theorem parts_depth {qs : List Pk} (h : NmQ qs) : (partsD qs).depth ≤ 60 := by
  have := (pk_plain h).2
  simp only [partsD, PyData.depth]
  omega
/-- data without truths and dicts -/
def pureD : PyData → Bool
  | .none => true
  | .int _ => true
  | .str _ => true
  | .list xs => pureAll xs
  | .tuple xs => pureAll xs
  | .bool _ => false
  | .dict _ => false
where pureAll : List PyData → Bool
  | [] => true
  | x :: xs => pureD x && pureAll xs
mutual
theorem eqv_pure : ∀ (d e : PyData), pureD d = true → pureD e = true → PyData.eqv d e = true → d = e
  | .none, e, _, _, h => by cases e <;> simp_all [PyData.eqv]
  | .int i, e, _, he, h => by cases e <;> simp_all [PyData.eqv, pureD]
  | .str z, e, _, _, h => by cases e <;> simp_all [PyData.eqv]
  | .list xs, e, hd, he, h => by
    cases e with
    | list ys => exact congrArg _ (eqv_pures xs ys (by simpa [pureD] using hd) (by simpa [pureD] using he) (by simpa [PyData.eqv] using h))
    | _ => simp_all [PyData.eqv]
  | .tuple xs, e, hd, he, h => by
    cases e with
    | tuple ys => exact congrArg _ (eqv_pures xs ys (by simpa [pureD] using hd) (by simpa [pureD] using he) (by simpa [PyData.eqv] using h))
    | _ => simp_all [PyData.eqv]
  | .bool b, e, hd, _, _ => by simp [pureD] at hd
  | .dict k, e, hd, _, _ => by simp [pureD] at hd
theorem eqv_pures : ∀ (xs ys : List PyData), pureD.pureAll xs = true → pureD.pureAll ys = true → PyData.eqvAll xs ys = true → xs = ys
  | [], [], _, _, _ => rfl
  | [], _ :: _, _, _, h => by simp [PyData.eqvAll] at h
  | _ :: _, [], _, _, h => by simp [PyData.eqvAll] at h
  | x :: xs, y :: ys, hx, hy, h => by
    simp only [pureD.pureAll, Bool.and_eq_true] at hx hy
    simp only [PyData.eqvAll, Bool.and_eq_true] at h
    rw [eqv_pure x y hx.1 hy.1 h.1, eqv_pures xs ys hx.2 hy.2 h.2]
end
theorem pure_sum {n : Int} {ps : Mul} (h : ∀ u ∈ ps.map (·.1), NmU u) : pureD (sumD n ps) = true := by
  have go : ∀ ps : Mul, (∀ u ∈ ps.map (·.1), NmU u) → pureD.pureAll (ps.map partD) = true := fun ps => by
    induction ps with
    | nil => exact fun _ => rfl
    | cons q l ih =>
      intro hn
      obtain ⟨k, o, e, _⟩ := hn q.1 (List.mem_cons_self ..)
      have h2 := ih fun u hu => hn u (List.mem_cons_of_mem _ hu)
      rw [List.map_cons]
      unfold partD
      rw [e]
      cases o <;> simp [pureD, pureD.pureAll, unkD, keyDat] <;> exact h2
  have := go ps h
  simp [sumD, pureD, pureD.pureAll, this]
theorem pure_sums : ∀ {ws : List (Int × Mul)}, (∀ w ∈ ws, ∀ u ∈ w.2.map (·.1), NmU u) → pureD.pureAll (ws.map fun w => sumD w.1 w.2) = true
  | [], _ => rfl
  | w :: ws, h => by
    have h1 := pure_sum (n := w.1) (h w (List.mem_cons_self ..))
    have h2 := pure_sums fun w' hw => h w' (List.mem_cons_of_mem _ hw)
    rw [List.map_cons]
    simp [pureD.pureAll, h1, h2]
theorem pure_pks : ∀ {qs : List Pk}, NmQ qs → pureD.pureAll (qs.map pkD) = true
  | [], _ => rfl
  | q :: qs, h => by
    have h1 := pure_sums (h q (List.mem_cons_self ..))
    have h2 := pure_pks (qs := qs) fun q' hq => h q' (List.mem_cons_of_mem _ hq)
    rw [List.map_cons]
    simp [pureD.pureAll, pkD, pureD, h1, h2]
theorem map_inj {α : Type} {f : α → PyData} {Pr : α → Prop} (inj : ∀ a b, Pr a → Pr b → f a = f b → a = b) : ∀ {xs ys : List α}, (∀ a ∈ xs, Pr a) → (∀ a ∈ ys, Pr a) → xs.map f = ys.map f → xs = ys
  | [], [], _, _, _ => rfl
  | [], _ :: _, _, _, h => by cases h
  | _ :: _, [], _, _, h => by cases h
  | x :: xs, y :: ys, hx, hy, h => by
    rw [List.map_cons, List.map_cons] at h
    obtain ⟨h1, h2⟩ := List.cons.inj h
    rw [inj x y (hx x (List.mem_cons_self ..)) (hy y (List.mem_cons_self ..)) h1, map_inj inj (fun a ha => hx a (List.mem_cons_of_mem _ ha)) (fun a ha => hy a (List.mem_cons_of_mem _ ha)) h2]
theorem unk_inj {u v : List Key} (hu : NmU u) (hv : NmU v) (e : unkD u = unkD v) : u = v := by
  obtain ⟨k, o, rfl, _⟩ := hu
  obtain ⟨k', o', rfl, _⟩ := hv
  cases o <;> cases o' <;> simp_all [unkD, keyDat]
def NmM (w : Int × Mul) : Prop := ∀ u ∈ w.2.map (·.1), NmU u
theorem sum_inj {w w' : Int × Mul} (hw : ∀ u ∈ w.2.map (·.1), NmU u) (hw' : ∀ u ∈ w'.2.map (·.1), NmU u) (e : sumD w.1 w.2 = sumD w'.1 w'.2) : w = w' := by
  obtain ⟨n, ps⟩ := w
  obtain ⟨n', ps'⟩ := w'
  have e := PyData.tuple.inj e
  obtain ⟨e1, e2⟩ := List.cons.inj e
  obtain ⟨e2, _⟩ := List.cons.inj e2
  have e1 := PyData.int.inj e1
  have e2 := PyData.tuple.inj e2
  have e1 : n = n' := e1
  have e3 : ps = ps' := map_inj (f := partD) (Pr := fun q : List Key × Int => NmU q.1) (fun a b ha hb e => by
    obtain ⟨a1, a2⟩ := a
    obtain ⟨b1, b2⟩ := b
    have e := PyData.tuple.inj e
    obtain ⟨f1, f2⟩ := List.cons.inj e
    obtain ⟨f2, _⟩ := List.cons.inj f2
    have f2 : a2 = b2 := PyData.int.inj f2
    have f1 : a1 = b1 := unk_inj ha hb f1
    rw [f1, f2]) (fun a ha => hw _ (List.mem_map.mpr ⟨a, ha, rfl⟩)) (fun a ha => hw' _ (List.mem_map.mpr ⟨a, ha, rfl⟩)) e2
  rw [e1, e3]
theorem pk_inj {q q' : Pk} (h : ∀ w ∈ q.2.2, ∀ u ∈ w.2.map (·.1), NmU u) (h' : ∀ w ∈ q'.2.2, ∀ u ∈ w.2.map (·.1), NmU u) (e : pkD q = pkD q') : q = q' := by
  obtain ⟨p, k, ws⟩ := q
  obtain ⟨p', k', ws'⟩ := q'
  have e := PyData.tuple.inj e
  obtain ⟨e1, e⟩ := List.cons.inj e
  obtain ⟨e2, e⟩ := List.cons.inj e
  obtain ⟨e3, _⟩ := List.cons.inj e
  have e1 : p = p' := PyData.str.inj e1
  have e2 : k = k' := PyData.str.inj e2
  have e3 : ws = ws' := map_inj (f := fun w : Int × Mul => sumD w.1 w.2) (Pr := NmM) (fun a b ha hb e => sum_inj ha hb e) h h' (PyData.tuple.inj e3)
  rw [e1, e2, e3]
def NmW (q : Pk) : Prop := ∀ w ∈ q.2.2, ∀ u ∈ w.2.map (·.1), NmU u
theorem parts_inj {qs qs' : List Pk} (h : NmQ qs) (h' : NmQ qs') (e : PyData.eqv (partsD qs) (partsD qs') = true) : qs = qs' := by
  have e := eqv_pure _ _ (by simpa [partsD, pureD] using pure_pks h) (by simpa [partsD, pureD] using pure_pks h') e
  exact map_inj (f := pkD) (Pr := NmW) (fun a b ha hb e => pk_inj ha hb e) h h' (PyData.tuple.inj e)
theorem ad_inj {a b : Str × Int} (e : PyData.eqv (adD a) (adD b) = true) : a = b := by
  obtain ⟨z, n⟩ := a
  obtain ⟨y, m⟩ := b
  have e := eqv_pure _ _ rfl rfl e
  simpa [adD] using e
theorem sameI_not {qs qs' : List Pk} {a0 b0 : Str × Int} (h : NmQ qs) (h' : NmQ qs') (ne : qs ≠ qs' ∨ a0 ≠ b0) : sameI qs a0 qs' b0 = false := by
  cases e : sameI qs a0 qs' b0 with
  | false => rfl
  | true =>
    unfold sameI at e
    rw [Bool.and_eq_true] at e
    rcases ne with ne | ne
    · exact absurd (parts_inj h h' e.1) ne
    · exact absurd (ad_inj e.2) ne
theorem sameI_self {qs : List Pk} {a0 : Str × Int} (h : NmQ qs) : sameI qs a0 qs a0 = true := by
  unfold sameI
  rw [SeqAt.eqv_refl_plain _ (parts_plain h), SeqAt.eqv_refl_plain (adD a0) rfl]
  rfl
def spEqI (K : PySem.W.Frag) (C : Addr) : Sp := fun vs H Q _ => ∃ a v qs a0, vs = [.ref a, v] ∧ ImgG H C a qs a0 ∧ ((∃ b qs' b0, v = .ref b ∧ ImgG H C b qs' b0 ∧ Q (.bl (sameI qs a0 qs' b0)) H) ∨ ∃ d, Th K H v d ∧ Q (.bl false) H)
abbrev sEq : Stmt := inClass (topS 27) 4
theorem scEq : FnScope ["self", "other"] ["self", "other"] (defScope sEq) := ⟨rfl, rfl, rfl, by decide +kernel, rfl, by decide +kernel, by decide +kernel⟩
section
variable {P : Program} {w : World} {K : PySem.W.Frag} {mg : Str → Option Value} {base : Heap}
theorem ok_eq {f C fe : Addr} {fd : FuncData} (F : Fun K "__eq__" "Image.__eq__" sEq f fd) (T : Bi mg) (B : ImC K C) (D : ImQ K C fe) (gI : mg "Image" = some (.ref C)) : FnOk P w K mg base CX0 1 f fd ["self", "other"] (spEqI K C) := by
  refine F.ok scEq (fun vs H Q E h => ?_) (fun cdv A outer s H vs Q E hr h => ?_)
  · obtain ⟨a, v, qs, a0, rfl, _⟩ := h
    rfl
  · obtain ⟨a, v, qs, a0, rfl, ⟨ok, dx, p, d, r, xs, ks, hx, hp, hxs, hd, hks, hr0⟩, want⟩ := h
    refine ⟨_, pss_one (ps_ret (pe_and (pe_callB call_isi (by rfl) T.isinstance (by decide +kernel) (pa_cons (pv 1) (pa_cons (pe_glob (v := .ref C) rfl gI rfl) pa_nil))) (pe_and (pe_cmpR (op_eqP hr) (pe_fld (pv 0) rfl) (pe_fld (pv 1) rfl) (nomark _)) (pe_one (pe_cmpR (op_eqP hr) (pe_fld (pv 0) rfl) (pe_fld (pv 1) rfl) (nomark _)))))), ?_⟩
    rcases want with ⟨b, qs', b0, rfl, ⟨ok', dx', p', d', r', xs', ks', hx', hp', hxs', hd', hks', hr0'⟩, want⟩ | ⟨dv, th, want⟩
    · refine ⟨_, rfl, .ref b, .ref C, _, _, _, rfl, .own C, insTy B.cl D hx', D.kit, _, rfl, iteT ?_⟩
      refine ⟨_, rfl, a, C, dx, _, _, rfl, hx, B.cl, B.n1, rfl, _, rfl, b, C, dx', _, _, rfl, hx', B.cl, B.n1, rfl, partsD qs, partsD qs', .tup (SqT.of hp) (pieces_dp hxs), .tup (SqT.of hp') (pieces_dp hxs'), parts_plain ok.nm, parts_plain ok'.nm, parts_depth ok.nm, _, rfl, ?_⟩
      unfold sameI at want
      cases e : PyData.eqv (partsD qs) (partsD qs') with
      | false =>
        rw [e] at want
        exact iteF want
      | true =>
        rw [e] at want
        exact iteT ⟨_, rfl, a, C, dx, _, _, rfl, hx, B.cl, B.n3, rfl, _, rfl, b, C, dx', _, _, rfl, hx', B.cl, B.n3, rfl, adD a0, adD b0, .tup (SqT.of hr0) (.cons (.str _) (.cons (.int _) .nil)), .tup (SqT.of hr0') (.cons (.str _) (.cons (.int _) .nil)), rfl, rfl, by simp [adD, PyData.depth, PyData.depthAll], want⟩
    · refine ⟨_, rfl, v, .ref C, _, _, _, rfl, .own C, th_ty th, D.kno _ (tyN_mem dv), _, rfl, iteF ?_⟩
      exact want
end
end DR

namespace DR
open PySem PySem.Spec PyProof.Rows L2
/-! ### _law_loose -/
theorem pool_same {H H' : Hp} {p : Addr} {c : Nat} (e : Same H H') (h : Pool H p c) : Pool H' p c := by
  obtain ⟨a, b, z, h1, r⟩ := h.ex
  exact ⟨a, b, z, e _ _ h1, r⟩
/-! a for over a list or a tuple that stands but for what else is changed -/
def SqK (K : PySem.W.Frag) : Bool → Hp → Addr → List V → Prop
  | true => SqL K
  | false => SqT K
theorem sqK_same {K : PySem.W.Frag} {H H' : Hp} {a : Addr} {xs : List V} (e : Same H H') : ∀ {b : Bool}, SqK K b H a xs → SqK K b H' a xs
  | true, h => sqL_same e h
  | false, h => sqT_same e h
theorem sqK_of {K : PySem.W.Frag} {H : Hp} {a : Addr} {xs : List V} (h : SqL K H a xs ∨ SqT K H a xs) : ∃ b, SqK K b H a xs := h.elim (fun h => ⟨true, h⟩) fun h => ⟨false, h⟩
def iSeqB (K : PySem.W.Frag) (tl : TE) : TI := fun σ H R => tl σ H fun x H1 => ∃ a xs b, x = .ref a ∧ SqK K b H1 a xs ∧ ∀ J G, Walk J xs.length G (YAt xs) → (∀ H4, SqK K b H4 a xs → G H4) → R J H1
theorem pi_seqB {X : Cx} {tg l : Expr} {tl : TE} (hl : PE X l tl) : PI X tg l (iSeqB X.K tl) := by
  refine ⟨fun pins s σ H R I h => ?_⟩
  refine thn (hl.run pins s σ H _ I h) fun v s1 ⟨x, H1, I1, r1, q1⟩ => ?_
  obtain ⟨a, xs, b, e, hq, q⟩ := q1
  subst e
  cases r1
  have fp : ∀ b ∈ [s1.heap.objs.size], FpOk X pins H1 b := fun b hb => by
    have e : b = s1.heap.objs.size := by simpa using hb
    subst e
    exact I1.fpOk (Nat.le_refl _) (I1.hok.fresh (Nat.le_refl _))
  cases b with
  | true =>
    obtain ⟨its, rv, p, hz⟩ := I1.list hq
    refine wpAny_pyIter_list p.isList ?_
    exact ⟨s1.heap.objs.size, [s1.heap.objs.size], _, _, H1, rfl, I1.kept (t' := s1.toks) fun b o e => Heap.get?_push_of_some _ e, turn_list a _, ⟨_, Heap.get?_push_size _ rfl, rfl, rfl⟩, fp, q _ (fun H4 => SqL X.K H4 a xs) walk_list fun H4 e => e⟩
  | false =>
    obtain ⟨its, rv, p, hz⟩ := I1.tuple hq
    refine wpAny_pyIter_tuple (show s1.heap.IsTuple a its.toArray from p) ?_
    exact ⟨s1.heap.objs.size, [s1.heap.objs.size], _, _, H1, rfl, I1.kept (t' := s1.toks) fun b o e => Heap.get?_push_of_some _ e, turn_tuple a _, ⟨_, Heap.get?_push_size _ rfl, rfl, rfl⟩, fp, q _ (fun H4 => SqT X.K H4 a xs) walk_tup fun H4 e => e⟩
/-- what stands in G, and what is new since H -/
def gr (G H H' : Hp) : Hp := fun b => match H b with
  | none => H' b
  | some _ => G b
theorem gr_new {G H H' : Hp} {b : Addr} (h : H b = none) : gr G H H' b = H' b := by
  unfold gr
  rw [h]
theorem gr_old {G H H' : Hp} {b : Addr} {o : HO} (h : H b = some o) : gr G H H' b = G b := by
  unfold gr
  rw [h]
theorem gr_mono {G B H Hj Hk : Hp} (dom : ∀ b, B b = none → H b = none) (k : ∀ b x, B b = none → Hj b = some x → Hk b = some x) (sG : Same G H) : Same (gr G B Hj) (gr G H Hk) := fun b x e => by
  cases hB : B b with
  | none =>
    rw [gr_new hB] at e
    rw [gr_new (dom b hB)]
    exact k b x hB e
  | some o =>
    rw [gr_old hB] at e
    rw [gr_old (sG _ _ e)]
    exact e
theorem gr_sub {G H H' : Hp} (s : Same G H') : Same (gr G H H') H' := fun b x e => by
  cases h : H b with
  | none => rw [gr_new h] at e; exact e
  | some o => rw [gr_old h] at e; exact s _ _ e
theorem gr_has {G H H' : Hp} (s : Same G H) : Same G (gr G H H') := fun b x e => by
  rw [gr_old (s _ _ e)]
  exact e
theorem same_dr {G H H' : Hp} {p : Addr} (sG : Same G H) (Gp : G p = none) (d : Dr p H H') : Same G H' := fun b x e => d b x (ne_of_none e Gp) (sG b x e)
inductive Lo : PyData → PyData → Prop
  | flat {d : PyData} : items d = none → Lo d d
  | num {x : PyData} : Lo (.tuple [x, .tuple []]) x
  | lst {d : PyData} {ds es : List PyData} : items d = some ds → PySem.W.EachIs Lo ds es → Lo d (.list es)
  | tup {d : PyData} {ds es : List PyData} : items d = some ds → PySem.W.EachIs Lo ds es → Lo d (.tuple es)
def costD : PyData → Nat
  | .list xs => 2 + costAll xs
  | .tuple xs => 2 + costAll xs
  | _ => 0
where costAll : List PyData → Nat
  | [] => 0
  | x :: xs => costD x + costAll xs
def fitD : PyData → Bool
  | .list xs => decide (xs.length ≤ 900) && fitAll xs
  | .tuple xs => decide (xs.length ≤ 900) && fitAll xs
  | .dict _ => false
  | _ => true
where fitAll : List PyData → Bool
  | [] => true
  | x :: xs => fitD x && fitAll xs
theorem cost_take : ∀ (ds : List PyData) (i : Nat) {d : PyData}, ds[i]? = some d → costD.costAll (ds.take i) + costD d ≤ costD.costAll (ds.take (i + 1)) ∧ costD.costAll (ds.take (i + 1)) ≤ costD.costAll ds
  | x :: xs, 0, d, h => by
    have h : x = d := Option.some.inj h
    subst h
    simp [costD.costAll]
  | x :: xs, i + 1, d, h => by
    have := cost_take xs i (d := d) h
    simp only [List.take_succ_cons, costD.costAll] at this ⊢
    omega
theorem fit_at : ∀ {ds : List PyData}, fitD.fitAll ds = true → ∀ {i : Nat} {d : PyData}, ds[i]? = some d → fitD d = true
  | x :: xs, h, 0, d, e => by
    have e : x = d := Option.some.inj e
    subst e
    simp only [fitD.fitAll, Bool.and_eq_true] at h
    exact h.1
  | x :: xs, h, i + 1, d, e => by
    simp only [fitD.fitAll, Bool.and_eq_true] at h
    exact fit_at h.2 (i := i) e
theorem fit_items {d : PyData} {ds : List PyData} (h : fitD d = true) (e : items d = some ds) : ds.length ≤ 900 ∧ fitD.fitAll ds = true := by
  cases d <;> simp [items] at e <;> subst e <;> simpa [fitD] using h
theorem cost_items {d : PyData} {ds : List PyData} (e : items d = some ds) : costD d = 2 + costD.costAll ds := by
  cases d <;> simp [items] at e <;> subst e <;> rfl
theorem depth_le : ∀ {ds : List PyData} {i : Nat} {d : PyData}, ds[i]? = some d → d.depth ≤ PyData.depthAll ds
  | x :: xs, 0, d, e => by
    have e : x = d := Option.some.inj e
    subst e
    rw [PyData.depthAll]
    exact Nat.le_max_left _ _
  | x :: xs, i + 1, d, e => by
    have := depth_le (ds := xs) (i := i) (d := d) e
    rw [PyData.depthAll]
    exact Nat.le_trans this (Nat.le_max_right _ _)
theorem depth_items {d : PyData} {ds : List PyData} (e : items d = some ds) : d.depth = PyData.depthAll ds + 1 := by
  cases d <;> simp [items] at e <;> subst e <;> simp [PyData.depth]
theorem plain_at : ∀ {ds : List PyData}, PyData.plainAll ds = true → ∀ {i : Nat} {d : PyData}, ds[i]? = some d → d.plain = true
  | x :: xs, h, 0, d, e => by
    have e : x = d := Option.some.inj e
    subst e
    simp only [PyData.plainAll, Bool.and_eq_true] at h
    exact h.1
  | x :: xs, h, i + 1, d, e => by
    simp only [PyData.plainAll, Bool.and_eq_true] at h
    exact plain_at h.2 (i := i) e
theorem plain_items {d : PyData} {ds : List PyData} (h : d.plain = true) (e : items d = some ds) : PyData.plainAll ds = true := by
  cases d <;> simp [items] at e <;> subst e <;> simpa [PyData.plain] using h
theorem eqv_empty {d : PyData} (h : PyData.eqv d (.tuple []) = true) : d = .tuple [] := by
  cases d with
  | tuple xs => cases xs with
    | nil => rfl
    | cons x xs => simp [PyData.eqv, PyData.eqvAll] at h
  | _ => simp [PyData.eqv] at h
theorem kit_tup1 {K : PySem.W.Frag} (d : PyData) : PySem.W.kitOne K (.type (tyN d)) (.type "tuple") = some (tyN d == "tuple") := kit_ty (kb_tup _ (tyN_mem d))
theorem kit_row2 {K : PySem.W.Frag} (d : PyData) : PySem.W.kitAny K (.type (tyN d)) [.type "tuple", .type "list"] = some (isR d) := by
  have h1 := kb_list _ (tyN_mem d)
  have h2 := kb_tup _ (tyN_mem d)
  refine kitAny_cons (kit_ty h2) (fun z => kitAny_cons (kit_ty h1) (fun z2 => ?_) fun z2 => ?_) fun z => ?_
  all_goals
    revert z
    try revert z2
    cases d <;> simp [tyN, isR, kitAny_nil]
def spLoo (K : PySem.W.Frag) (n : Nat) : Sp := fun vs H Q _ => ∃ (p : Addr) (v : V) (c : Nat) (G : Hp) (d : PyData), vs = [.ref p, v] ∧ Pool H p c ∧ c + costD d < 90000 ∧ Same G H ∧ G p = none ∧ Dp K G v d ∧ d.plain = true ∧ fitD d = true ∧ d.depth < n ∧ n ≤ 50 ∧
  ∀ v' d' H' c', Dr p H H' → Pool H' p c' → c' ≤ c + costD d → Dp K (gr G H H') v' d' → Lo d d' → (∀ a ys, d = .list ys → v' = .ref a → H a = none ∧ ((∃ es, d' = .list es) → ∃ zs, H' a = some (.lst zs))) → Q v' H'
abbrev sLoo : Stmt := topS 38
theorem scLoo : FnScope ["pool", "thing", "found", "part"] ["pool", "thing"] (defScope sLoo) := ⟨rfl, rfl, rfl, by decide +kernel, rfl, by decide +kernel, by decide +kernel⟩
section
variable {P : Program} {w : World} {K : PySem.W.Frag} {mg : Str → Option Value} {base : Heap}
theorem ok_loo0 {f : Addr} {fd : FuncData} (F : Fun K "_law_loose" "_law_loose" sLoo f fd) : FnOk P w K mg base CX0 4 f fd ["pool", "thing"] (spLoo K 0) := by
  refine F.ok scLoo (fun vs H Q E h => ?_) (fun cdv A outer s H vs Q E hr h => ?_)
  · obtain ⟨p, v, c, G, d, rfl, _⟩ := h
    rfl
  · obtain ⟨p, v, c, G, d, rfl, _, _, _, _, _, _, _, no, _⟩ := h
    exact absurd no (Nat.not_lt_zero _)
end
abbrev NLo : List Str := ["pool", "thing", "found", "part"]
abbrev oB (i : Nat) : Stmt := (defBody sLoo).getD i (.Pass ⟨0, 0, 0, 0⟩)
abbrev XLo (P : Program) (w : World) (K : PySem.W.Frag) (mg : Str → Option Value) (base : Heap) (f : Addr) (cdv : Value) (A : Around) (outer : List Env) (s : Shared) (H : Hp) (E : XK) : Cx := (cxOf CX0 P w K mg base NLo "_law_loose" (defScope sLoo) f cdv A outer s H E).nox
section
variable {P : Program} {w : World} {K : PySem.W.Frag} {mg : Str → Option Value} {base : Heap} {f : Addr} {cdv : Value} {A : Around} {outer : List Env} {s : Shared} {H0 : Hp} {E : XK} {k : Nat}
theorem lo0 (T : Bi mg) (GT : Has P w K mg base CX0 k "_law_take" ["pool", "many"] spTake) (hr : Room k (XLo P w K mg base f cdv A outer s H0 E).A) : ∃ t, PS (XLo P w K mg base f cdv A outer s H0 E) (oB 0) t ∧
    ∀ (D : Ends) (H : Hp) (p : Addr) (v : V) (c : Nat) (G : Hp) (d : PyData), Pool H p c → c < 95000 → Same G H → G p = none → Dp K G v d → d.plain = true → fitD d = true → d.depth ≤ 50 →
      (∀ x H' x1, d = .tuple [x, .tuple []] → Dr p H H' → Pool H' p (c + 1) → Dp K G x1 x → D.rt x1 H') → (∀ H' c', Dr p H H' → Pool H' p c' → c' ≤ c + 1 → (items d = none → H' = H ∧ c' = c) → D.nx [some (.ref p), some v, none, none] H') → t D [some (.ref p), some v, none, none] H := by
  refine ⟨_, (ps_if (PW.pt (pw_and (pt_val (pe_callB call_isi (by rfl) T.isinstance (by decide +kernel) (pa_cons (pv 1) (pa_cons (pe_bltn (v := .ty "tuple") (by rfl) T.tuple (by decide +kernel) rfl) pa_nil)))) (pw_and (pt_cmpR op_eq (pe_callB call_len_seq (by rfl) T.len (by decide +kernel) (pa_cons (pv 1) pa_nil)) pe_int (nomark _)) (pw_and (pt_cmpR (op_eqP hr) (pe_ix ix_tup (pv 1) pe_int (fun _ _ => rfl)) (pe_tup pa_nil) (nomark _)) (pw_and1 (pt_cmpR op_eq (pe_callH GT hr (by rfl) pass0 (pa_cons (pv 0) (pa_cons pe_int pa_nil))) pe_int (nomark _))))))) (pss_one (ps_ret (pe_ix ix_tup (pv 1) pe_int (fun _ _ => rfl)))) pss_nil), ?_⟩
  intro D H p v c G d hP hc sG Gp hv pl fit d50 q1 q2
  have hvH := dp_same sG hv
  refine ⟨_, rfl, v, _, _, _, _, rfl, .ty "tuple", th_ty (.dat hvH), kit_tup1 d, _, rfl, ?_⟩
  have stay : D.nx [some (.ref p), some v, none, none] H := q2 H c (fun _ _ _ e => e) hP (by omega) fun _ => ⟨rfl, rfl⟩
  cases d with
  | tuple ds =>
    obtain ⟨lf, ff⟩ := fit_items fit (show items (.tuple ds) = some ds from rfl)
    cases hv with
    | @tup a xs _ hs hall =>
      have lx : xs.length = ds.length := go2 hall
      have hsH := sqT_same sG hs
      refine iteT ⟨_, rfl, a, xs, rfl, .inr hsH, rfl, _, rfl, ?_⟩
      rw [eq_int]
      by_cases l2 : ((xs.length : Nat) : Int) = 2
      · rw [decide_eq_true l2]
        obtain ⟨x, y, rfl⟩ : ∃ x y, ds = [x, y] := by
          match ds, lx with
          | [x, y], _ => exact ⟨x, y, rfl⟩
          | [], z => rw [z] at l2; exact absurd l2 (by decide)
          | [_], z => rw [z] at l2; exact absurd l2 (by simp)
          | _ :: _ :: _ :: _, z => rw [z] at l2; simp at l2; omega
        cases hall with
        | @cons x1 _ _ _ h1 t1 => cases t1 with
          | @cons y1 _ _ _ h2 t2 =>
            cases t2
            have dall := depth_items (show items (.tuple [x, y]) = some [x, y] from rfl)
            have dy : y.depth ≤ 60 := by
              have := depth_le (ds := [x, y]) (i := 1) (d := y) rfl
              omega
            have py := plain_at (plain_items pl (show items (.tuple [x, y]) = some [x, y] from rfl)) (i := 1) (d := y) rfl
            refine iteT ⟨_, rfl, a, _, _, _, rfl, rfl, hsH, at_of (i := 1) rfl, (by show 0 ≤ sizeLine; decide), fun e he => ?_⟩
            have s1 := same_new (o := .tup []) he
            have hP1 := pool_new (o := .tup []) hP he
            have d01 : Dr p H (upd H e (.tup [])) := fun b x _ e => s1 b x e
            refine ⟨y, .tuple [], dp_same (sG.trans s1) h2, .tup (SqT.of upd_same) .nil, py, rfl, dy, _, rfl, ?_⟩
            generalize upd H e (.tup []) = H1 at s1 hP1 d01 ⊢
            cases ev : PyData.eqv y (.tuple []) with
            | false => exact iteF (iteF (q2 H1 c d01 hP1 (by omega) fun z => by cases z))
            | true =>
              obtain rfl := eqv_empty ev
              refine iteT ⟨_, rfl, p, c, 2, rfl, hP1, by omega, by decide, by decide, fun r o r0 r2 hP2 => ?_⟩
              have d02 : Dr p H (upd H1 p o) := fun b x hb e => by rw [upd_ne hb]; exact d01 b x hb e
              have sG2 := same_dr sG Gp d02
              refine ⟨rfl, _, rfl, ?_⟩
              rw [eq_int]
              by_cases rz : r = 0
              · rw [decide_eq_true rz]
                exact iteT ⟨_, rfl, a, _, _, _, rfl, rfl, sqT_same sG2 hs, at_of (i := 0) rfl, q1 x _ x1 rfl d02 hP2 h1⟩
              · rw [decide_eq_false rz]
                exact iteF (q2 _ (c + 1) d02 hP2 (Nat.le_refl _) fun z => by cases z)
      · rw [decide_eq_false l2]
        exact iteF (iteF stay)
  | _ => exact iteF (iteF stay)
theorem dp_flat {G G' : Hp} {v : V} {d : PyData} (e : items d = none) (h : Dp K G v d) : Dp K G' v d := by
  cases h with
  | non => exact .non
  | bl b => exact .bl b
  | int i => exact .int i
  | str x => exact .str x
  | lst _ _ => cases e
  | tup _ _ => cases e
theorem lo1 (T : Bi mg) : ∃ t, PS (XLo P w K mg base f cdv A outer s H0 E) (oB 1) t ∧
    ∀ (D : Ends) (H : Hp) (p : Addr) (v : V) (d : PyData), Dp K H v d →
      (∀ H', Same H H' → items d = none → D.rt v H') → (∀ H', Same H H' → ∀ ds, items d = some ds → D.nx [some (.ref p), some v, none, none] H') → t D [some (.ref p), some v, none, none] H := by
  refine ⟨_, (ps_if (pt_not (pt_val (pe_callB call_isiT (by rfl) T.isinstance (by decide +kernel) (pa_cons (pv 1) (pa_cons (pe_tup (pa_cons (pe_bltn (v := .ty "tuple") (by rfl) T.tuple (by decide +kernel) rfl) (pa_cons (pe_bltn (v := .ty "list") (by rfl) T.list (by decide +kernel) rfl) pa_nil))) pa_nil))))) (pss_one (ps_ret (pv 1))) pss_nil), ?_⟩
  intro D H p v d hv q1 q2
  refine ⟨_, rfl, (by show 2 ≤ sizeLine; decide), fun e he => ?_⟩
  have s1 := same_new (o := .tup [V.ty "tuple", V.ty "list"]) he
  refine ⟨v, e, _, _, _, _, rfl, upd_same, .cons (.ty "tuple") (.cons (.ty "list") .nil), th_ty (.dat (dp_same s1 hv)), kit_row2 d, _, rfl, ?_⟩
  cases ei : items d with
  | none =>
    have : isR d = false := by cases d <;> first | rfl | cases ei
    rw [this]
    exact iteT ⟨_, rfl, q1 _ s1 ei⟩
  | some ds =>
    have : isR d = true := by cases d <;> first | rfl | cases ei
    rw [this]
    exact iteF (q2 _ s1 ds ei)
theorem lo2 {n : Nat} (T : Bi mg) (G0 : Has P w K mg base CX0 k "_law_loose" ["pool", "thing"] (spLoo K n)) (hr : Room k (XLo P w K mg base f cdv A outer s H0 E).A) : ∃ t, PS (XLo P w K mg base f cdv A outer s H0 E) (oB 2) t ∧
    ∀ (D : Ends) (H : Hp) (p : Addr) (v : V) (c : Nat) (G : Hp) (d : PyData) (ds : List PyData), items d = some ds → Pool H p c → c + costD d < 90001 → Same G H → G p = none → Dp K G v d → d.plain = true → fitD d = true → d.depth ≤ n → n ≤ 50 →
      (∀ H' F zs es c', Dr p H H' → Pool H' p c' → c' ≤ c + costD.costAll ds → H F = none → F ≠ p → H' F = some (.lst zs) → DpAll K (gr G H H') zs es → PySem.W.EachIs Lo ds es → zs.length ≤ 900 → D.nx [some (.ref p), some v, some (.ref F), none] H') → t D [some (.ref p), some v, none, none] H := by
  refine ⟨_, (ps_setLc (i := 2) (own := [("part", 3)]) (g := gName 3) (tt := tYes) (te := tIf (tNot (tB (tCB (rIsi K) (tCons (tVar 3) (tCons (tC (.ty "str")) tNil))))) (tCall (spLoo K n) [] E0 (tCons (tVar 0) (tCons (tVar 3) tNil))) (tVar 3)) rfl scLoo.nd rfl rfl (sw_true rfl rfl rfl (by decide +kernel)) (pi_seqB (pv 1)) (blkOk_by (N := NLo) (sc := defScope sLoo) (by decide +kernel)) (fun _ _ _ _ _ => pg_name (i := 3) scLoo.nd rfl (.inl rfl)) (fun _ _ _ _ _ => pts_nil) (fun _ _ _ _ _ => (pe_ifExp (pt_not (pt_val (pe_callB call_isi (by rfl) T.isinstance (by decide +kernel) (pa_cons (pv 3) (pa_cons (pe_bltn (v := .ty "str") (by rfl) T.str (by decide +kernel) rfl) pa_nil))))) (pe_callH G0 hr (by rfl) pass0 (pa_cons (pv 0) (pa_cons (pv 3) pa_nil))) (pv 3)))), ?_⟩
  intro D H p v c G d ds ei hP hc sG Gp hv pl fit dn n50 q
  obtain ⟨lf, ff⟩ := fit_items fit ei
  have pls := plain_items pl ei
  have dd := depth_items ei
  have ce := cost_items ei
  obtain ⟨a, xs, rfl, hsq, hall⟩ := th_items (.dat hv) ei
  have lx : xs.length = ds.length := go2 hall
  obtain ⟨bb, hsq⟩ := sqK_of hsq
  refine ⟨_, rfl, a, xs, bb, rfl, sqK_same sG hsq, fun J Gd W hG => fun F hF => ?_⟩
  have Fp : F ≠ p := pool_ne hP hF
  have GF : G F = none := none_of sG hF
  have sGB : Same G (upd H F (.lst [])) := sG.trans (same_new hF)
  have kHB : ∀ b x, b ≠ F → H b = some x → upd H F (.lst []) b = some x := fun b x hb e => by rw [upd_ne hb]; exact e
  have domB : ∀ b, upd H F (.lst []) b = none → H b = none := fun b e => by
    by_cases hb : b = F
    · rw [hb]; exact hF
    · rw [upd_ne hb] at e; exact e
  have BF : upd H F (.lst []) F = some (.lst []) := upd_same
  have PB : Pool (upd H F (.lst [])) p c := pool_new hP hF
  have stG : ∀ {Hj : Hp}, (∀ b x, b ≠ p → b ≠ F → upd H F (.lst []) b = some x → Hj b = some x) → Same G Hj := fun kp b x e => kp b x (ne_of_none e Gp) (ne_of_none e GF) (sGB b x e)
  refine lc_it W (fun i Hj => (∀ b x, b ≠ p → b ≠ F → upd H F (.lst []) b = some x → Hj b = some x) ∧ ∃ zs es cj, Pool Hj p cj ∧ cj ≤ c + costD.costAll (ds.take i) ∧ Hj F = some (.lst zs) ∧ zs.length = i ∧ DpAll K (gr G (upd H F (.lst [])) Hj) zs es ∧ PySem.W.EachIs Lo (ds.take i) es)
    ⟨fun b x _ _ e => e, [], [], c, PB, Nat.le_add_right _ _, BF, rfl, .nil, .nil⟩ (fun i Hj _ ⟨kp, _⟩ => hG Hj (sqK_same (stG kp) hsq)) ?_ ?_
  · rintro i u Hj Hj' hi ⟨kp, zs, es, cj, hPj, hcj, hFj, hlz, hzs, hes⟩ ⟨rfl, hu⟩
    obtain ⟨d1, hd1, hdp⟩ := dps_get hall hu
    obtain ⟨ct1, ct2⟩ := cost_take ds i hd1
    have sGj := stG kp
    have fin : ∀ (v' : V) (d' : PyData) (H6 : Hp) (c6 : Nat), Dr p Hj' H6 → Pool H6 p c6 → c6 ≤ cj + costD d1 → Dp K (gr G Hj' H6) v' d' → Lo d1 d' → ∃ acc, H6 F = some (.lst acc) ∧ acc.length < sizeLine ∧ ((∀ b x, b ≠ p → b ≠ F → upd H F (.lst []) b = some x → upd H6 F (.lst (acc ++ [v'])) b = some x) ∧ ∃ zs es cj, Pool (upd H6 F (.lst (acc ++ [v']))) p cj ∧ cj ≤ c + costD.costAll (ds.take (i + 1)) ∧ upd H6 F (.lst (acc ++ [v'])) F = some (.lst zs) ∧ zs.length = i + 1 ∧ DpAll K (gr G (upd H F (.lst [])) (upd H6 F (.lst (acc ++ [v'])))) zs es ∧ PySem.W.EachIs Lo (ds.take (i + 1)) es) := by
      intro v' d' H6 c6 dr hP6 hc6 hv' hlo
      have hF6 := dr _ _ Fp hFj
      have domJ : ∀ b, Hj' b = none → upd H F (.lst []) b = none := fun b e => by
        cases z : upd H F (.lst []) b with
        | none => rfl
        | some o =>
          by_cases hb : b = F
          · rw [hb, hFj] at e; cases e
          · by_cases hb2 : b = p
            · obtain ⟨_, _, _, e2, _⟩ := hPj.ex
              rw [hb2, e2] at e; cases e
            · rw [kp b o hb2 hb z] at e; cases e
      have toF : ∀ b x, upd H F (.lst []) b = none → H6 b = some x → upd H6 F (.lst (zs ++ [v'])) b = some x := fun b x e1 e2 => by
        rw [upd_ne (fun z => by rw [z, BF] at e1; cases e1)]
        exact e2
      have m1 : Same (gr G (upd H F (.lst [])) Hj') (gr G (upd H F (.lst [])) (upd H6 F (.lst (zs ++ [v'])))) := gr_mono (fun _ e => e) (fun b x e1 e2 => toF b x e1 (dr _ _ (fun z => by
        obtain ⟨_, _, _, e3, _⟩ := PB.ex
        rw [z, e3] at e1; cases e1) e2)) sGB
      have m2 : Same (gr G Hj' H6) (gr G (upd H F (.lst [])) (upd H6 F (.lst (zs ++ [v'])))) := gr_mono domJ (fun b x e1 e2 => toF b x (domJ b e1) e2) sGB
      refine ⟨zs, hF6, small1000 (by omega), fun b x h1 h2 e => by rw [upd_ne h2]; exact dr _ _ h1 (kp b x h1 h2 e), zs ++ [v'], es ++ [d'], c6, pool_put hP6 Fp.symm, by omega, upd_same, by simp [hlz], dps_snoc (dp_same m2 hv') (dps_same m1 hzs), ?_⟩
      rw [List.take_add_one, hd1]
      exact eachs_snoc hlo hes
    refine ⟨rfl, yes_go (iteT ⟨_, rfl, u, _, _, _, _, rfl, .ty "str", th_ty (.dat (dp_same sGj hdp)), kit_str d1, _, rfl, ?_⟩)⟩
    cases es1 : isS d1 with
    | true =>
      have e1 : items d1 = none := by cases d1 <;> first | rfl | cases es1
      exact iteF ⟨_, rfl, fin u d1 _ cj (fun _ _ _ e => e) hPj (Nat.le_add_right _ _) (dp_flat e1 hdp) (.flat e1)⟩
    | false =>
      have dl := depth_le hd1
      exact iteT ⟨_, rfl, _, rfl, p, u, cj, G, d1, rfl, hPj, by omega, sGj, Gp, hdp, plain_at pls hd1, fit_at ff hd1, by omega, n50, fun v' d' H6 c6 dr hP6 hc6 hv' hlo _ => fin v' d' H6 c6 dr hP6 hc6 hv' hlo⟩
  · rintro Hj ⟨kp, zs, es, cj, hPj, hcj, hFj, hlz, hzs, hes⟩
    rw [lx, List.take_length] at hes hcj
    have m : Same (gr G (upd H F (.lst [])) Hj) (gr G H Hj) := gr_mono domB (fun _ _ _ e => e) sG
    exact q Hj F zs es cj (fun b x hb e => kp b x hb (ne_of_none e hF) (kHB b x (ne_of_none e hF) e)) hPj hcj hF Fp hFj (dps_same m hzs) hes (by omega)
theorem lo3 (T : Bi mg) (GT : Has P w K mg base CX0 k "_law_take" ["pool", "many"] spTake) (hr : Room k (XLo P w K mg base f cdv A outer s H0 E).A) : ∃ t, PS (XLo P w K mg base f cdv A outer s H0 E) (oB 3) t ∧
    ∀ (D : Ends) (H : Hp) (p F : Addr) (v : V) (c : Nat) (zs : List V), Pool H p c → c < 95000 → F ≠ p → H F = some (.lst zs) →
      (∀ H' v', Dr p H H' → Pool H' p (c + 1) → (v' = .ref F ∨ ∃ t, v' = .ref t ∧ H t = none ∧ H' t = some (.tup zs)) → D.rt v' H') → t D [some (.ref p), some v, some (.ref F), none] H := by
  refine ⟨_, (ps_ret (pe_ifExp (pt_cmpR op_eq (pe_callH GT hr (by rfl) pass0 (pa_cons (pv 0) (pa_cons pe_int pa_nil))) pe_int (nomark _)) (pv 2) (pe_callTy call_tuple_of (by rfl) T.tuple (by decide +kernel) (pa_cons (pv 2) pa_nil)))), ?_⟩
  intro D H p F v c zs hP hc Fp hF q
  refine ⟨_, rfl, p, c, 2, rfl, hP, by omega, by decide, by decide, fun r o r0 r2 hP2 => ?_⟩
  have d2 : Dr p H (upd H p o) := fun b x hb e => by rw [upd_ne hb]; exact e
  refine ⟨rfl, _, rfl, ?_⟩
  rw [eq_int]
  by_cases rz : r = 0
  · rw [decide_eq_true rz]
    exact iteT ⟨_, rfl, q _ _ d2 hP2 (.inl rfl)⟩
  · rw [decide_eq_false rz]
    refine iteF ⟨_, rfl, F, zs, rfl, .inl ⟨SqL.of (d2 _ _ Fp hF), fun t ht => ?_⟩⟩
    have tp := pool_ne hP2 ht
    refine q _ _ (fun b x hb e => (same_new ht) _ _ (d2 b x hb e)) (pool_new hP2 ht) (.inr ⟨t, rfl, ?_, upd_same⟩)
    rw [upd_ne tp] at ht
    exact ht
theorem ok_loo {n : Nat} {fd : FuncData} (F : Fun K "_law_loose" "_law_loose" sLoo f fd) (T : Bi mg) (G0 : Has P w K mg base CX0 k "_law_loose" ["pool", "thing"] (spLoo K n)) (GT : Has P w K mg base CX0 k "_law_take" ["pool", "many"] spTake) : FnOk P w K mg base CX0 (k + 1) f fd ["pool", "thing"] (spLoo K (n + 1)) := by
  refine F.ok scLoo (fun vs H Q E h => ?_) (fun cdv A outer s H vs Q E hr h => ?_)
  · obtain ⟨p, v, c, G, d, rfl, _⟩ := h
    rfl
  · obtain ⟨p, v, c, G, d, rfl, hP, hc, sG, Gp, hv, pl, fit, dn, n50, q⟩ := h
    obtain ⟨t0, h0, q0⟩ := lo0 (P := P) (w := w) (K := K) (base := base) (f := f) (cdv := cdv) (A := A) (outer := outer) (s := s) (H0 := H) (E := E) T GT hr
    obtain ⟨t1, h1, q1⟩ := lo1 (P := P) (w := w) (K := K) (base := base) (f := f) (cdv := cdv) (A := A) (outer := outer) (s := s) (H0 := H) (E := E) T
    obtain ⟨t2, h2, q2⟩ := lo2 (P := P) (w := w) (K := K) (base := base) (f := f) (cdv := cdv) (A := A) (outer := outer) (s := s) (H0 := H) (E := E) T G0 hr
    obtain ⟨t3, h3, q3⟩ := lo3 (P := P) (w := w) (K := K) (base := base) (f := f) (cdv := cdv) (A := A) (outer := outer) (s := s) (H0 := H) (E := E) T GT hr
    refine ⟨_, pss_cons h0 (pss_cons h1 (pss_cons h2 (pss_one h3))), ?_⟩
    refine q0 _ H p v c G d hP (by omega) sG Gp hv pl fit (by omega) (fun x H' x1 ed dr hP' hx1 => ?_) (fun H1 c1 dr1 hP1 hc1 same1 => ?_)
    · subst ed
      have ce := cost_items (show items (.tuple [x, .tuple []]) = some [x, .tuple []] from rfl)
      exact q x1 x H' (c + 1) dr hP' (by omega) (dp_same (gr_has sG) hx1) .num (fun a ys e _ => by cases e)
    · have sG1 := same_dr sG Gp dr1
      refine q1 _ H1 p v d (dp_same sG1 hv) (fun H2 s2 ei => ?_) (fun H2 s2 ds ei => ?_)
      · obtain ⟨rfl, rfl⟩ := same1 ei
        exact q v d H2 c1 (fun b x _ e => s2 b x e) (pool_same s2 hP1) (Nat.le_add_right _ _) (dp_flat ei hv) (.flat ei) (fun a ys e _ => by rw [e] at ei; cases ei)
      · have sG2 := sG1.trans s2
        have hP2 := pool_same s2 hP1
        have ce := cost_items ei
        have dr2 : Dr p H H2 := fun b x hb e => s2 _ _ (dr1 b x hb e)
        refine q2 _ H2 p v c1 G d ds ei hP2 (by omega) sG2 Gp hv pl fit (by omega) (by omega) fun H3 F zs es c3 dr3 hP3 hc3 hF0 Fp hF hzs hes lz => ?_
        have dom : ∀ b, H2 b = none → H b = none := fun b e => by
          cases z : H b with
          | none => rfl
          | some o =>
            by_cases hb : b = p
            · obtain ⟨_, _, _, e2, _⟩ := hP2.ex
              rw [hb, e2] at e; cases e
            · rw [dr2 b o hb z] at e; cases e
        have HF := dom F hF0
        refine q3 _ H3 p F v c3 zs hP3 (by omega) Fp hF fun H4 v' dr4 hP4 hv' => ?_
        have dr : Dr p H H4 := fun b x hb e => dr4 _ _ hb (dr3 _ _ hb (dr2 b x hb e))
        have m : Same (gr G H2 H3) (gr G H H4) := gr_mono dom (fun b x e1 e2 => dr4 b x (fun z => by
          obtain ⟨_, _, _, e3, _⟩ := hP2.ex
          rw [z, e3] at e1; cases e1) e2) sG
        rcases hv' with rfl | ⟨t, rfl, ht0, ht⟩
        · exact q _ (.list es) H4 (c3 + 1) dr hP4 (by omega) (.lst (SqL.of (by rw [gr_new HF]; exact dr4 _ _ Fp hF)) (dps_same m hzs)) (.lst ei hes) (fun a ys _ e => by injection e with e; rw [← e]; exact ⟨HF, fun _ => ⟨_, dr4 _ _ Fp hF⟩⟩)
        · have Ht : H t = none := by
            cases z : H t with
            | none => rfl
            | some o =>
              by_cases hb : t = p
              · obtain ⟨_, _, _, e2, _⟩ := hP3.ex
                rw [hb, e2] at ht0; cases ht0
              · rw [dr3 _ _ hb (dr2 t o hb z)] at ht0; cases ht0
          exact q _ (.tuple es) H4 (c3 + 1) dr hP4 (by omega) (.tup (SqT.of (by rw [gr_new Ht]; exact ht)) (dps_same m hzs)) (.tup ei hes) (fun a ys _ e => by injection e with e; rw [← e]; exact ⟨Ht, fun ⟨_, z⟩ => by cases z⟩)
end
end DR

namespace DR
open PySem PySem.Spec PyProof.Rows L2
/-! ### what is told loosely, read -/
def PL (d : PyData) (q : List Key × Int) : Prop := ∃ x z, items d = some [x, .int q.2] ∧ items x = some [.str sPiece, .str z] ∧ q.1 = [.inr sPiece, .inr z] ∧ NmOk z
theorem unk_items {x : PyData} {z : Str} (e : items x = some [.str sPiece, .str z]) (h : NmOk z) : readUnk x = some [.inr sPiece, .inr z] ∧ shortP x := by
  have r := (show UkP [.inr sPiece, .inr z] from ⟨z, rfl, h⟩)
  have a : readUnk (.tuple [.str sPiece, .str z]) = some [.inr sPiece, .inr z] := r.rd
  have b : shortP (.tuple [.str sPiece, .str z]) := r.shp
  cases x <;> simp [items] at e <;> subst e <;> exact ⟨a, b⟩
theorem part_PL {d : PyData} {q : List Key × Int} (h : PL d q) (acc : Mul) : addPart acc d = some (addP acc q.1 q.2) := by
  obtain ⟨x, z, e1, e2, e3, hz⟩ := h
  unfold addPart
  rw [e1]
  show (readUnk x).map _ = _
  rw [(unk_items e2 hz).1, e3]
  rfl
theorem parts_PL : ∀ {ds : List PyData} {l : Mul}, PySem.W.EachIs PL ds l → ∀ acc : Mul, readParts ds acc = some (l.foldl (fun a q => addP a q.1 q.2) acc)
  | _, _, .nil, acc => rfl
  | _, _, .cons h t, acc => by
    show (addPart acc _).bind (readParts _) = _
    rw [part_PL h acc]
    exact parts_PL t _
theorem PL.okp {d : PyData} {q : List Key × Int} (h : PL d q) : okPart d := by
  obtain ⟨x, z, e1, e2, e3, hz⟩ := h
  intro x' m e
  rw [e1] at e
  have e := Option.some.inj e
  obtain rfl : x = x' := (List.cons.inj e).1
  exact ⟨(unk_items e2 hz).2, fun u hu => readUnk_nm hu⟩
/-- a word of n and l told loosely -/
def WSh (d : PyData) (n : Int) (l : Mul) : Prop := (d = .int n ∧ l = []) ∨ ∃ q ds, items d = some [.int n, q] ∧ items q = some ds ∧ PySem.W.EachIs PL ds l
def WL (d : PyData) (w : Int × Mul) : Prop := readSum d = some w ∧ okSum d
theorem form_nil0 : form (accAll []) = [] := by simp [accAll, form, keysN]
theorem each_in {α β : Type} {R : α → β → Prop} : ∀ {as : List α} {bs : List β}, PySem.W.EachIs R as bs → ∀ a ∈ as, ∃ b ∈ bs, R a b
  | _, _, .nil, a, h => by simp at h
  | _, _, .cons (b := b) h t, a, ha => by
    rcases List.mem_cons.mp ha with rfl | ha
    · exact ⟨b, List.mem_cons_self .., h⟩
    · obtain ⟨b', h1, h2⟩ := each_in t a ha
      exact ⟨b', List.mem_cons_of_mem _ h1, h2⟩
theorem WSh.wl {d : PyData} {n : Int} {l : Mul} (h : WSh d n l) (few : l.length ≤ 100) : WL d (n, form (accAll l)) := by
  rcases h with ⟨rfl, rfl⟩ | ⟨q, ds, e1, e2, h⟩
  · refine ⟨?_, fun n q ds e _ => by cases e⟩
    show some (n, []) = _
    rw [form_nil0]
  · refine ⟨?_, fun n' q' ds' f1 f2 => ?_⟩
    · have go : readSum d = (items q).bind fun ds => (readParts ds []).map fun kvs => (n, form kvs) := by
        unfold readSum
        cases d <;> simp [items] at e1 <;> subst e1 <;> rfl
      rw [go, e2]
      show (readParts ds []).map _ = _
      rw [parts_PL h []]
      rfl
    · rw [e1] at f1
      have f1 := Option.some.inj f1
      obtain rfl : q = q' := (List.cons.inj (List.cons.inj f1).2).1
      rw [e2] at f2
      obtain rfl := Option.some.inj f2
      have le := h.length
      refine ⟨by omega, fun p hp => ?_⟩
      obtain ⟨b, _, hb⟩ := each_in h p hp
      exact hb.okp
theorem lo_flat {d e : PyData} (h : Lo d e) (n : items d = none) : e = d := by
  cases h with
  | flat _ => rfl
  | num => cases n
  | lst e _ => rw [n] at e; cases e
  | tup e _ => rw [n] at e; cases e
theorem lo_row {d e : PyData} {ds : List PyData} (h : Lo d e) (ei : items d = some ds) (nn : ∀ x, d ≠ .tuple [x, .tuple []]) : ∃ es, items e = some es ∧ PySem.W.EachIs Lo ds es := by
  cases h with
  | flat z => rw [ei] at z; cases z
  | num => exact absurd rfl (nn _)
  | lst e t => rw [ei] at e; cases e; exact ⟨_, rfl, t⟩
  | tup e t => rw [ei] at e; cases e; exact ⟨_, rfl, t⟩
theorem each2 {α β : Type} {R : α → β → Prop} {a b : α} {es : List β} (h : PySem.W.EachIs R [a, b] es) : ∃ x y, es = [x, y] ∧ R a x ∧ R b y := by
  cases h with
  | cons h1 t => cases t with
    | cons h2 t => cases t; exact ⟨_, _, rfl, h1, h2⟩
theorem each3 {α β : Type} {R : α → β → Prop} {a b c : α} {es : List β} (h : PySem.W.EachIs R [a, b, c] es) : ∃ x y z, es = [x, y, z] ∧ R a x ∧ R b y ∧ R c z := by
  cases h with
  | cons h1 t => cases t with
    | cons h2 t => cases t with
      | cons h3 t => cases t; exact ⟨_, _, _, rfl, h1, h2, h3⟩
theorem lo_part {q : List Key × Int} {e : PyData} (u : UkP q.1) (h : Lo (partD q) e) : PL e q := by
  obtain ⟨z, ez, hz⟩ := u
  obtain ⟨u, m⟩ := q
  have ez : u = [.inr sPiece, .inr z] := ez
  subst ez
  obtain ⟨es, e1, h1⟩ := lo_row h (show items (partD ([.inr sPiece, .inr z], m)) = some [unkD [.inr sPiece, .inr z], .int m] from rfl) (fun x e => by simp [partD] at e)
  obtain ⟨x, y, rfl, hx, hy⟩ := each2 h1
  obtain rfl := lo_flat hy rfl
  obtain ⟨es2, e2, h2⟩ := lo_row hx (show items (unkD [.inr sPiece, .inr z]) = some [.str sPiece, .str z] from rfl) (fun x e => by simp [unkD, keyDat] at e)
  obtain ⟨x2, y2, rfl, hx2, hy2⟩ := each2 h2
  obtain rfl := lo_flat hx2 rfl
  obtain rfl := lo_flat hy2 rfl
  exact ⟨x, z, e1, e2, rfl, hz⟩
theorem lo_each {α : Type} {f : α → PyData} {R : PyData → α → Prop} : ∀ {xs : List α} {es : List PyData}, (∀ x ∈ xs, ∀ e, Lo (f x) e → R e x) → PySem.W.EachIs Lo (xs.map f) es → PySem.W.EachIs R es xs
  | [], _, _, h => by cases h; exact .nil
  | x :: xs, es, k, h => by
    cases h with
    | cons h t => exact .cons (k x (List.mem_cons_self ..) _ h) (lo_each (fun y hy => k y (List.mem_cons_of_mem _ hy)) t)
theorem lo_word {n : Int} {ps : Mul} {e : PyData} (uk : ∀ u ∈ ps.map (·.1), UkP u) (h : Lo (sumD n ps) e) : WSh e n ps := by
  by_cases hp : ps = []
  · subst hp
    cases h with
    | flat z => cases z
    | num => exact .inl ⟨rfl, rfl⟩
    | lst z t =>
      cases z
      obtain ⟨x, y, rfl, hx, hy⟩ := each2 t
      obtain rfl := lo_flat hx rfl
      obtain ⟨es, e1, h1⟩ := lo_row hy rfl (fun x e => by simp at e)
      cases h1
      exact .inr ⟨_, [], rfl, e1, .nil⟩
    | tup z t =>
      cases z
      obtain ⟨x, y, rfl, hx, hy⟩ := each2 t
      obtain rfl := lo_flat hx rfl
      obtain ⟨es, e1, h1⟩ := lo_row hy rfl (fun x e => by simp at e)
      cases h1
      exact .inr ⟨_, [], rfl, e1, .nil⟩
  · obtain ⟨es, e1, h1⟩ := lo_row h (show items (sumD n ps) = some [.int n, .tuple (ps.map partD)] from rfl) (fun x e => by
      simp [sumD] at e
      exact hp e.2)
    obtain ⟨x, y, rfl, hx, hy⟩ := each2 h1
    obtain rfl := lo_flat hx rfl
    obtain ⟨es2, e2, h2⟩ := lo_row hy (show items (.tuple (ps.map partD)) = some (ps.map partD) from rfl) (fun x e => by
      match ps, e with
      | [a, b], e => simp [partD] at e
      | [], e => simp at e
      | [_], e => simp at e
      | _ :: _ :: _ :: _, e => simp at e)
    exact .inr ⟨_, es2, e1, e2, lo_each (fun q hq e h => lo_part (uk q.1 (List.mem_map.mpr ⟨q, hq, rfl⟩)) h) h2⟩
/-- a piece -/
structure QOk (q : Pk) : Prop where
  nm : NmOk q.1
  kd : q.2.1 ∈ kinds2
  few : q.2.2.length ≤ 10
  wd : ∀ w ∈ q.2.2, WdOk w.1 w.2
def PSh (d : PyData) (q : Pk) : Prop := ∃ ws wl, items d = some [.str q.1, .str q.2.1, ws] ∧ items ws = some wl ∧ PySem.W.EachIs WL wl q.2.2
def PcD (d : PyData) (q : Pk) : Prop := readPc d = some q ∧ okPc d
theorem readAll_WL : ∀ {wl : List PyData} {l : List (Int × Mul)}, PySem.W.EachIs WL wl l → readAllS wl = some l
  | _, _, .nil => rfl
  | _, _, .cons h t => by
    show (readSum _).bind _ = _
    rw [h.1, readAll_WL t]
    rfl
theorem PSh.pc {d : PyData} {q : Pk} (h : PSh d q) (nm : NmOk q.1) (kd : q.2.1 ∈ kinds2) (few : q.2.2.length ≤ 10) : PcD d q := by
  obtain ⟨ws, wl, e1, e2, h⟩ := h
  refine ⟨?_, fun p k ws' f1 => ?_⟩
  · unfold readPc
    rw [e1]
    show (if isNmS q.1 = true ∧ q.2.1 ∈ kinds2 then _ else _) = _
    rw [if_pos ⟨nm.nm, kd⟩, e2]
    show (readAllS wl).map _ = _
    rw [readAll_WL h]
    rfl
  · rw [e1] at f1
    have f1 := Option.some.inj f1
    obtain ⟨g1, f1⟩ := List.cons.inj f1
    obtain ⟨g2, f1⟩ := List.cons.inj f1
    obtain ⟨g3, _⟩ := List.cons.inj f1
    subst g1
    subst g3
    refine ⟨nm.sh, fun wl' f2 => ?_⟩
    rw [e2] at f2
    obtain rfl := Option.some.inj f2
    have le := h.length
    refine ⟨by omega, fun w hw => ?_⟩
    obtain ⟨b, _, hb⟩ := each_in h w hw
    exact hb.2
theorem WdOk.wl {n : Int} {ps : Mul} (h : WdOk n ps) : WL (sumD n ps) (n, ps) := ⟨h.rd, h.oks⟩
theorem wls_of : ∀ {ws : List (Int × Mul)}, (∀ w ∈ ws, WdOk w.1 w.2) → PySem.W.EachIs WL (ws.map fun w => sumD w.1 w.2) ws
  | [], _ => .nil
  | w :: ws, h => .cons (h w (List.mem_cons_self ..)).wl (wls_of fun w' hw => h w' (List.mem_cons_of_mem _ hw))
theorem QOk.pc {q : Pk} (h : QOk q) : PcD (pkD q) q := (show PSh (pkD q) q from ⟨_, _, rfl, rfl, wls_of h.wd⟩).pc h.nm h.kd h.few
theorem WdOk.lo {n : Int} {ps : Mul} (h : WdOk n ps) {e : PyData} (l : Lo (sumD n ps) e) : WL e (n, ps) := by
  have few := h.few
  have := (lo_word h.uk l).wl (by omega)
  rw [acc_one h.nod h.nm, h.one] at this
  exact this
theorem QOk.lo {q : Pk} (h : QOk q) {e : PyData} (l : Lo (pkD q) e) : PcD e q := by
  obtain ⟨es, e1, h1⟩ := lo_row l (show items (pkD q) = some [.str q.1, .str q.2.1, .tuple (q.2.2.map fun w => sumD w.1 w.2)] from rfl) (fun x e => by simp [pkD] at e)
  obtain ⟨x, y, z, rfl, hx, hy, hz⟩ := each3 h1
  obtain rfl := lo_flat hx rfl
  obtain rfl := lo_flat hy rfl
  obtain ⟨es2, e2, h2⟩ := lo_row hz (show items (.tuple (q.2.2.map fun w => sumD w.1 w.2)) = some (q.2.2.map fun w => sumD w.1 w.2) from rfl) (fun x e => by
    match q.2.2, e with
    | [a, b], e => simp [sumD] at e
    | [], e => simp at e
    | [_], e => simp at e
    | _ :: _ :: _ :: _, e => simp at e)
  exact (show PSh e q from ⟨z, es2, e1, e2, lo_each (fun w hw e l => (h.wd w hw).lo l) h2⟩).pc h.nm h.kd h.few
theorem lo_pieces {qs : List Pk} (h : ∀ q ∈ qs, QOk q) {e : PyData} (l : Lo (.list (qs.map pkD)) e) : ∃ ds, items e = some ds ∧ PySem.W.EachIs PcD ds qs := by
  obtain ⟨es, e1, h1⟩ := lo_row l rfl (fun x e => by cases e)
  exact ⟨es, e1, lo_each (fun q hq e l => (h q hq).lo l) h1⟩
end DR

namespace DR
open PySem PySem.Spec PyProof.Rows L2
/-! ### what is told loosely, shown -/
def nlS : List Str := ["b", "a", "main", "abcdefgh", "piece", "code", "data"]
def nl : PyData → Prop
  | .int i => Sz i
  | .str z => z ∈ nlS
  | .list xs => nlAll xs
  | .tuple xs => nlAll xs
  | _ => False
where nlAll : List PyData → Prop
  | [] => True
  | x :: xs => nl x ∧ nlAll xs
theorem len_nat {n k : Nat} (hk : 0 < k) (h : n < 10 ^ k) : (Str.ofString (toString n)).length ≤ k := by
  have h1 : ((n : Nat) : Int) < 10 ^ k := by exact_mod_cast h
  exact toString_length_le (v := (n : Int)) (Int.natCast_nonneg n) hk h1
theorem len_int {i : Int} (h : Sz i) : (PyData.int i).shown.length ≤ 70 := by
  have p : (2 : Nat) ^ 200 < 10 ^ 61 := by decide
  have h : i.natAbs < 2 ^ 200 := h
  simp only [PyData.shown]
  cases i with
  | ofNat n =>
    have := len_nat (n := n) (k := 61) (by decide) (by have : n < 2 ^ 200 := h; omega)
    show (Str.ofString (toString n)).length ≤ 70
    omega
  | negSucc n =>
    have := len_nat (n := n + 1) (k := 61) (by decide) (by have : n + 1 < 2 ^ 200 := h; omega)
    show (Str.ofString ("-" ++ toString (n + 1))).length ≤ 70
    rw [PyProof.Rows.ofString_length] at this ⊢
    simp only [String.toList_append, List.length_append] at this ⊢
    have e : ("-" : String).toList.length = 1 := rfl
    omega
theorem show_int {i : Int} (h : Sz i) : (PyData.int i).showable = true := by
  simp only [PyData.showable]
  refine decide_eq_true ?_
  by_cases z : i.natAbs = 0
  · rw [z]
    decide
  · refine Nat.lt_of_lt_of_le ((Nat.log2_lt z).mpr h) (by decide)
theorem nlS_short : ∀ z ∈ nlS, (PyData.str z).leavesShort 70 = true := by decide +kernel
mutual
theorem nl_show : ∀ d : PyData, nl d → d.showable = true ∧ d.leavesShort 70 = true ∧ d.hasDict = false ∧ d.plain = true
  | .int i, h => ⟨show_int h, by simpa [PyData.leavesShort] using len_int h, rfl, rfl⟩
  | .str z, h => ⟨rfl, nlS_short z h, rfl, rfl⟩
  | .list xs, h => by
    obtain ⟨a, b, c, d⟩ := nl_shows xs h
    exact ⟨by simpa [PyData.showable] using a, by simpa [PyData.leavesShort] using b, by simpa [PyData.hasDict] using c, by simpa [PyData.plain] using d⟩
  | .tuple xs, h => by
    obtain ⟨a, b, c, d⟩ := nl_shows xs h
    exact ⟨by simpa [PyData.showable] using a, by simpa [PyData.leavesShort] using b, by simpa [PyData.hasDict] using c, by simpa [PyData.plain] using d⟩
  | .none, h => h.elim
  | .bool _, h => h.elim
  | .dict _, h => h.elim
theorem nl_shows : ∀ xs : List PyData, nl.nlAll xs → PyData.showableAll xs = true ∧ PyData.leavesShortAll 70 xs = true ∧ PyData.hasDictAll xs = false ∧ PyData.plainAll xs = true
  | [], _ => ⟨rfl, rfl, by simp [PyData.hasDictAll], rfl⟩
  | x :: xs, h => by
    obtain ⟨a, b, c, d⟩ := nl_show x h.1
    obtain ⟨a2, b2, c2, d2⟩ := nl_shows xs h.2
    exact ⟨by simp [PyData.showableAll, a, a2], by simp [PyData.leavesShortAll, b, b2], by simp [PyData.hasDictAll, c, c2], by simp [PyData.plainAll, d, d2]⟩
end
theorem lo_ind {Pr : PyData → PyData → Prop} (flat : ∀ d, Pr d d) (num : ∀ x, Pr (.tuple [x, .tuple []]) x) (lst : ∀ d ds es, items d = some ds → PySem.W.EachIs Pr ds es → Pr d (.list es)) (tup : ∀ d ds es, items d = some ds → PySem.W.EachIs Pr ds es → Pr d (.tuple es)) :
    ∀ n d e, d.depth ≤ n → Lo d e → Pr d e := by
  intro n
  induction n with
  | zero =>
    intro d e hd h
    cases h with
    | flat _ => exact flat d
    | num => exact num _
    | lst z _ => have := depth_items z; omega
    | tup z _ => have := depth_items z; omega
  | succ n ih =>
    intro d e hd h
    have go : ∀ {ds es : List PyData}, PyData.depthAll ds ≤ n → PySem.W.EachIs Lo ds es → PySem.W.EachIs Pr ds es := by
      intro ds es hd h
      induction h with
      | nil => exact .nil
      | cons h t iht =>
        rw [PyData.depthAll] at hd
        exact .cons (ih _ _ (Nat.le_trans (Nat.le_max_left _ _) hd) h) (iht (Nat.le_trans (Nat.le_max_right _ _) hd))
    cases h with
    | flat _ => exact flat d
    | num => exact num _
    | lst z t =>
      have := depth_items z
      exact lst _ _ _ z (go (by omega) t)
    | tup z t =>
      have := depth_items z
      exact tup _ _ _ z (go (by omega) t)
/-- what loosening keeps -/
def Kp (d e : PyData) : Prop := (nl d → nl e) ∧ e.bulk ≤ d.bulk ∧ e.depth ≤ d.depth
theorem kps : ∀ {ds es : List PyData}, PySem.W.EachIs Kp ds es → (nl.nlAll ds → nl.nlAll es) ∧ PyData.bulkAll es ≤ PyData.bulkAll ds ∧ PyData.depthAll es ≤ PyData.depthAll ds
  | _, _, .nil => ⟨id, Nat.le_refl _, Nat.le_refl _⟩
  | _, _, .cons h t => by
    obtain ⟨a, b, c⟩ := kps t
    refine ⟨fun z => ⟨h.1 z.1, a z.2⟩, ?_, ?_⟩
    · have := h.2.1
      simp only [PyData.bulkAll]
      omega
    · have := h.2.2
      simp only [PyData.depthAll]
      omega
theorem kp_row {d : PyData} {ds : List PyData} (e : items d = some ds) : (nl d → nl.nlAll ds) ∧ d.bulk = PyData.bulkAll ds := by
  cases d <;> simp [items] at e <;> subst e <;> exact ⟨id, by simp [PyData.bulk]⟩
theorem lo_kp {d e : PyData} (h : Lo d e) : Kp d e := by
  refine lo_ind (Pr := Kp) (fun d => ⟨id, Nat.le_refl _, Nat.le_refl _⟩) (fun x => ⟨fun z => z.1, ?_, ?_⟩) (fun d ds es z t => ?_) (fun d ds es z t => ?_) d.depth d e (Nat.le_refl _) h
  · simp only [PyData.bulk, PyData.bulkAll]
    omega
  · simp only [PyData.depth, PyData.depthAll]
    omega
  · obtain ⟨a, b, c⟩ := kps t
    obtain ⟨a2, b2⟩ := kp_row z
    have := depth_items z
    exact ⟨fun y => a (a2 y), by rw [b2]; simpa [PyData.bulk] using b, by simp only [PyData.depth]; omega⟩
  · obtain ⟨a, b, c⟩ := kps t
    obtain ⟨a2, b2⟩ := kp_row z
    have := depth_items z
    exact ⟨fun y => a (a2 y), by rw [b2]; simpa [PyData.bulk] using b, by simp only [PyData.depth]; omega⟩
/-- data that is shown in few signs -/
structure ShOk (d : PyData) : Prop where
  nl : nl d
  bulk : d.bulk ≤ 20000
  depth : d.depth ≤ 40
theorem ShOk.lo {d e : PyData} (h : ShOk d) (l : Lo d e) : ShOk e := by
  obtain ⟨a, b, c⟩ := lo_kp l
  have h1 := h.bulk
  have h2 := h.depth
  exact ⟨a h.nl, by omega, by omega⟩
theorem ShOk.len {d : PyData} (h : ShOk d) : d.shown.length ≤ sizeLine := by
  have h1 := PyData.shown_le_bulk 70 (by decide) d (nl_show d h.nl).2.1
  have h2 := h.bulk
  have h3 : (70 + 2) * d.bulk ≤ 72 * 20000 := Nat.mul_le_mul (by decide) h2
  have h4 : 72 * 20000 + 70 ≤ sizeLine := by decide
  omega
def nm4 : List Str := ["b", "a", "main", "abcdefgh"]
theorem nm4_in : ∀ z ∈ nm4, z ∈ nlS := by decide +kernel
theorem nm4_bulk : ∀ z ∈ nm4, (PyData.str z).bulk ≤ 8 := by decide +kernel
theorem nm4_ok : ∀ z ∈ nm4, NmOk z := fun z hz => by
  have a : ∀ z ∈ nm4, isNmS z = true := by decide +kernel
  have b : ∀ z ∈ nm4, z.length ≤ 1000 := by decide +kernel
  exact ⟨a z hz, b z hz⟩
theorem kd_in : ∀ z ∈ kinds2, z ∈ nlS := by decide +kernel
theorem kd_bulk : ∀ z ∈ kinds2, (PyData.str z).bulk ≤ 4 := by decide +kernel
theorem sp_in : sPiece ∈ nlS := by decide +kernel
theorem sp_bulk : (PyData.str sPiece).bulk ≤ 5 := by decide +kernel
/-- a word over these names -/
def U4 (u : List Key) : Prop := ∃ z ∈ nm4, u = [.inr sPiece, .inr z]
theorem part_sh {q : List Key × Int} (u : U4 q.1) (m : Sz q.2) : nl (partD q) ∧ (partD q).bulk ≤ 20 := by
  obtain ⟨z, hz, e⟩ := u
  obtain ⟨u, i⟩ := q
  have e : u = [.inr sPiece, .inr z] := e
  subst e
  have b1 := nm4_bulk z hz
  have b2 := sp_bulk
  refine ⟨⟨⟨sp_in, nm4_in z hz, trivial⟩, m, trivial⟩, ?_⟩
  simp only [partD, unkD, keyDat, List.map_cons, List.map_nil, PyData.bulk, PyData.bulkAll] at b1 b2 ⊢
  omega
theorem parts_sh : ∀ {ps : Mul}, (∀ q ∈ ps, U4 q.1 ∧ Sz q.2) → nl.nlAll (ps.map partD) ∧ PyData.bulkAll (ps.map partD) ≤ 21 * ps.length
  | [], _ => ⟨trivial, by simp [PyData.bulkAll]⟩
  | q :: ps, h => by
    obtain ⟨a, b⟩ := part_sh (h q (List.mem_cons_self ..)).1 (h q (List.mem_cons_self ..)).2
    obtain ⟨a2, b2⟩ := parts_sh (ps := ps) fun q' hq => h q' (List.mem_cons_of_mem _ hq)
    rw [List.map_cons]
    refine ⟨⟨a, a2⟩, ?_⟩
    simp only [PyData.bulkAll, List.length_cons]
    omega
structure WSm (w : Int × Mul) : Prop where
  ok : WdOk w.1 w.2
  u4 : ∀ u ∈ w.2.map (·.1), U4 u
  sm : ∀ q ∈ w.2, q.2.natAbs ≤ 10240
theorem word_sh {w : Int × Mul} (h : WSm w) : nl (sumD w.1 w.2) ∧ (sumD w.1 w.2).bulk ≤ 110 := by
  have few := h.ok.few
  obtain ⟨a, b⟩ := parts_sh (ps := w.2) fun q hq => ⟨h.u4 q.1 (List.mem_map.mpr ⟨q, hq, rfl⟩), h.ok.sz q hq⟩
  refine ⟨⟨h.ok.nz, a, trivial⟩, ?_⟩
  simp only [sumD, PyData.bulk, PyData.bulkAll]
  omega
theorem words_sh : ∀ {ws : List (Int × Mul)}, (∀ w ∈ ws, WSm w) → nl.nlAll (ws.map fun w => sumD w.1 w.2) ∧ PyData.bulkAll (ws.map fun w => sumD w.1 w.2) ≤ 111 * ws.length
  | [], _ => ⟨trivial, by simp [PyData.bulkAll]⟩
  | w :: ws, h => by
    obtain ⟨a, b⟩ := word_sh (h w (List.mem_cons_self ..))
    obtain ⟨a2, b2⟩ := words_sh (ws := ws) fun w' hw => h w' (List.mem_cons_of_mem _ hw)
    rw [List.map_cons]
    refine ⟨⟨a, a2⟩, ?_⟩
    simp only [PyData.bulkAll, List.length_cons]
    omega
structure QSm (q : Pk) : Prop where
  nm : q.1 ∈ nm4
  kd : q.2.1 ∈ kinds2
  few : q.2.2.length ≤ 10
  wd : ∀ w ∈ q.2.2, WSm w
theorem QSm.ok {q : Pk} (h : QSm q) : QOk q := ⟨nm4_ok _ h.nm, h.kd, h.few, fun w hw => (h.wd w hw).ok⟩
theorem piece_sh {q : Pk} (h : QSm q) : nl (pkD q) ∧ (pkD q).bulk ≤ 1130 := by
  have few := h.few
  obtain ⟨a, b⟩ := words_sh h.wd
  have b1 := nm4_bulk _ h.nm
  have b2 := kd_bulk _ h.kd
  refine ⟨⟨nm4_in _ h.nm, kd_in _ h.kd, a, trivial⟩, ?_⟩
  simp only [pkD, PyData.bulk, PyData.bulkAll] at b1 b2 ⊢
  omega
theorem pieces_sh : ∀ {qs : List Pk}, (∀ q ∈ qs, QSm q) → nl.nlAll (qs.map pkD) ∧ PyData.bulkAll (qs.map pkD) ≤ 1131 * qs.length
  | [], _ => ⟨trivial, by simp [PyData.bulkAll]⟩
  | q :: qs, h => by
    obtain ⟨a, b⟩ := piece_sh (h q (List.mem_cons_self ..))
    obtain ⟨a2, b2⟩ := pieces_sh (qs := qs) fun q' hq => h q' (List.mem_cons_of_mem _ hq)
    rw [List.map_cons]
    refine ⟨⟨a, a2⟩, ?_⟩
    simp only [PyData.bulkAll, List.length_cons]
    omega
theorem list_sh {qs : List Pk} (h : ∀ q ∈ qs, QSm q) (few : qs.length ≤ 10) : ShOk (.list (qs.map pkD)) := by
  obtain ⟨a, b⟩ := pieces_sh h
  have c := (pk_plain (qs := qs) fun q hq w hw => ((h q hq).wd w hw).ok.nm).2
  refine ⟨a, ?_, ?_⟩
  · simp only [PyData.bulk]
    omega
  · simp only [PyData.depth]
    omega
/-! what loosening asks -/
theorem cost_part {q : List Key × Int} (h : UkP q.1) : costD (partD q) = 4 ∧ fitD (partD q) = true := by
  obtain ⟨z, e, _⟩ := h
  unfold partD
  rw [e]
  exact ⟨rfl, rfl⟩
theorem cost_parts : ∀ {ps : Mul}, (∀ q ∈ ps, UkP q.1) → costD.costAll (ps.map partD) = 4 * ps.length ∧ fitD.fitAll (ps.map partD) = true
  | [], _ => ⟨rfl, rfl⟩
  | q :: ps, h => by
    obtain ⟨a, b⟩ := cost_part (h q (List.mem_cons_self ..))
    obtain ⟨a2, b2⟩ := cost_parts (ps := ps) fun q' hq => h q' (List.mem_cons_of_mem _ hq)
    rw [List.map_cons]
    exact ⟨by simp only [costD.costAll, List.length_cons]; omega, by simp [fitD.fitAll, b, b2]⟩
theorem cost_word {w : Int × Mul} (h : WdOk w.1 w.2) : costD (sumD w.1 w.2) ≤ 24 ∧ fitD (sumD w.1 w.2) = true := by
  have few := h.few
  obtain ⟨a, b⟩ := cost_parts (ps := w.2) fun q hq => h.uk q.1 (List.mem_map.mpr ⟨q, hq, rfl⟩)
  refine ⟨?_, ?_⟩
  · simp only [sumD, costD, costD.costAll]
    omega
  · simp only [sumD, fitD, fitD.fitAll, b, List.length_map, Bool.and_eq_true, decide_eq_true_eq]
    exact ⟨by simp, trivial, ⟨by omega, trivial⟩, trivial⟩
theorem cost_words : ∀ {ws : List (Int × Mul)}, (∀ w ∈ ws, WdOk w.1 w.2) → costD.costAll (ws.map fun w => sumD w.1 w.2) ≤ 24 * ws.length ∧ fitD.fitAll (ws.map fun w => sumD w.1 w.2) = true
  | [], _ => ⟨Nat.le_refl _, rfl⟩
  | w :: ws, h => by
    obtain ⟨a, b⟩ := cost_word (h w (List.mem_cons_self ..))
    obtain ⟨a2, b2⟩ := cost_words (ws := ws) fun w' hw => h w' (List.mem_cons_of_mem _ hw)
    rw [List.map_cons]
    exact ⟨by simp only [costD.costAll, List.length_cons]; omega, by simp [fitD.fitAll, b, b2]⟩
theorem cost_piece {q : Pk} (h : QOk q) : costD (pkD q) ≤ 244 ∧ fitD (pkD q) = true := by
  have few := h.few
  obtain ⟨a, b⟩ := cost_words h.wd
  refine ⟨?_, ?_⟩
  · simp only [pkD, costD, costD.costAll]
    omega
  · simp only [pkD, fitD, fitD.fitAll, b, List.length_map, Bool.and_eq_true, decide_eq_true_eq]
    exact ⟨by simp, trivial, trivial, ⟨by omega, trivial⟩, trivial⟩
theorem cost_pieces : ∀ {qs : List Pk}, (∀ q ∈ qs, QOk q) → costD.costAll (qs.map pkD) ≤ 244 * qs.length ∧ fitD.fitAll (qs.map pkD) = true
  | [], _ => ⟨Nat.le_refl _, rfl⟩
  | q :: qs, h => by
    obtain ⟨a, b⟩ := cost_piece (h q (List.mem_cons_self ..))
    obtain ⟨a2, b2⟩ := cost_pieces (qs := qs) fun q' hq => h q' (List.mem_cons_of_mem _ hq)
    rw [List.map_cons]
    exact ⟨by simp only [costD.costAll, List.length_cons]; omega, by simp [fitD.fitAll, b, b2]⟩
theorem cost_list {qs : List Pk} (h : ∀ q ∈ qs, QOk q) (few : qs.length ≤ 10) : costD (.list (qs.map pkD)) ≤ 2500 ∧ fitD (.list (qs.map pkD)) = true := by
  obtain ⟨a, b⟩ := cost_pieces h
  refine ⟨?_, ?_⟩
  · simp only [costD]
    omega
  · simp only [fitD, b, List.length_map, Bool.and_eq_true, decide_eq_true_eq]
    exact ⟨by omega, trivial⟩
end DR

namespace DR
open PySem PySem.Spec PyProof.Rows L2
/-! ### xs[::-1], xs a list -/
theorem fm_map {α β : Type} {f : α → Option β} {g : α → β} : ∀ {l : List α}, (∀ m ∈ l, f m = some (g m)) → l.filterMap f = l.map g
  | [], _ => rfl
  | a :: l, h => by
    rw [List.filterMap_cons, h a (List.mem_cons_self ..), List.map_cons, fm_map fun m hm => h m (List.mem_cons_of_mem _ hm)]
theorem pick_back (its : List Value) : slicePick its.toArray none none (some (-1)) = its.reverse.toArray := by
  unfold slicePick
  have e1 : sliceBounds none none (some (-1)) its.toArray.size = ((its.length : Int) - 1, -1, -1) := by
    rw [List.size_toArray]
    rfl
  rw [e1]
  show ((sliceRange ((its.length : Int) - 1) (-1) (-1)).filterMap (its.toArray[·]?)).toArray = _
  congr 1
  have e2 : sliceRange ((its.length : Int) - 1) (-1) (-1) = (List.range its.length).map fun (k : Nat) => its.length - 1 - k := by
    unfold sliceRange
    have c : (if (-1 : Int) > 0 then (if (its.length : Int) - 1 < -1 then (-1 - ((its.length : Int) - 1) + -1 - 1) / -1 else 0) else (if (its.length : Int) - 1 > -1 then ((its.length : Int) - 1 - -1 - -1 - 1) / (- -1) else 0)) = (its.length : Int) := by
      rw [if_neg (by decide)]
      by_cases h : (its.length : Int) - 1 > -1
      · rw [if_pos h]
        simp only [Int.neg_neg, Int.ediv_one]
        omega
      · rw [if_neg h]
        omega
    show (List.range (if (-1 : Int) > 0 then (if (its.length : Int) - 1 < -1 then (-1 - ((its.length : Int) - 1) + -1 - 1) / -1 else 0) else (if (its.length : Int) - 1 > -1 then ((its.length : Int) - 1 - -1 - -1 - 1) / (- -1) else 0)).toNat).map _ = _
    rw [c, Int.toNat_natCast]
    apply List.map_congr_left
    intro m hm
    have := List.mem_range.mp hm
    omega
  rw [e2, List.filterMap_map]
  apply List.ext_getElem?
  intro i
  have e3 : (List.range its.length).filterMap ((its.toArray[·]?) ∘ fun (k : Nat) => its.length - 1 - k) = (List.range its.length).map fun m => its.getD (its.length - 1 - m) .none := by
    apply fm_map
    intro m hm
    have hm' : m < its.length := List.mem_range.mp hm
    have hlt : its.length - 1 - m < its.length := by omega
    show its.toArray[its.length - 1 - m]? = _
    rw [List.getElem?_toArray, List.getElem?_eq_getElem hlt]
    simp [List.getD_eq_getElem?_getD, List.getElem?_eq_getElem hlt]
  rw [e3]
  by_cases hi : i < its.length
  · rw [List.getElem?_map, List.getElem?_range hi, List.getElem?_reverse hi]
    have hlt : its.length - 1 - i < its.length := by omega
    simp [List.getD_eq_getElem?_getD, List.getElem?_eq_getElem hlt]
  · rw [List.getElem?_eq_none (by simp; omega), List.getElem?_eq_none (by simp; omega)]
def tRevL (K : PySem.W.Frag) (te : TE) : TE := fun σ H Q => te σ H fun x H1 => ∃ a xs, x = .ref a ∧ SqL K H1 a xs ∧ ∀ p, H1 p = none → Q (.ref p) (upd H1 p (.lst xs.reverse))
theorem pe_revL {X : Cx} {e : Expr} {te : TE} {k : Nat} {p1 p2 p3 pos : Pos} (he : PE X e te) : PE X (.Subscript e (.Slice none none (some (.UnaryOp .USub (.Constant (.int 1) k p1) p2)) p3) pos) (tRevL X.K te) := by
  constructor
  intro pins s σ H Q I h
  refine Subscript_ (thn (he.run pins s σ H _ I h) fun v s1 got => ?_)
  obtain ⟨x, H1, I1, r1, a, xs, rfl, hx, q⟩ := got
  cases r1
  have part : PO X (some (.UnaryOp .USub (.Constant (.int 1) k p1) p2)) (L2.tPart (tUn (rU fun i => .int (-i)) (tC (.int 1)))) := po_some (pe_un un_neg pe_int)
  refine wpAny_Slice (thn (po_none.run pins s1 σ H1 (fun o H2 => o = none ∧ H2 = H1) I1 ⟨rfl, rfl⟩) fun vl s2 g2 => ?_)
  obtain ⟨l, H2, I2, pl, rfl, rfl⟩ := g2
  refine thn (po_none.run pins s2 σ H2 (fun o H3 => o = none ∧ H3 = H2) I2 ⟨rfl, rfl⟩) fun vu s3 g3 => ?_
  obtain ⟨u, H3, I3, pu, rfl, rfl⟩ := g3
  refine thn (part.run pins s3 σ H3 (fun o H4 => o = some (-1) ∧ H4 = H3) I3 ⟨1, rfl, -1, rfl, rfl, rfl⟩) fun vs s4 g4 => ?_
  obtain ⟨o, H4, I4, ps, rfl, rfl⟩ := g4
  have I5 : Inv X pins σ H4 { s4 with heap := s4.heap.push { cls := .type "slice", data := .fields #[vl, vu, vs] } } := I4.kept (t' := s4.toks) fun b ob q => Heap.get?_push_of_some _ q
  obtain ⟨its, r, ht, hz⟩ := I5.list hx
  have hl := r.length
  show wpAny (model X.prog X.w) X.A (subscriptTail e (.Slice none none (some (.UnaryOp .USub (.Constant (.int 1) k p1) p2)) p3) (.ref a) (.ref s4.heap.objs.size)) (EP X pins σ Q) X.xe { s4 with heap := s4.heap.push { cls := .type "slice", data := .fields #[vl, vu, vs] } }
  refine tail_any (ops := [.ref a, .ref s4.heap.objs.size]) ht.isList.typeIs slot_list_getitem.lookup ?_ (by with_unfolding_all rfl)
  refine wpAny_getItem_list_slice ht.isList (Heap.IsSliceOf.new _ vl vu vs) pl pu ps (by simp) ?_ (by rw [List.size_toArray] <;> omega)
  rw [pick_back]
  refine ⟨.ref _, _, I5.laid (t' := s4.toks) (o := .lst xs.reverse) (fun b ob q => Heap.get?_push_of_some _ q) (Nat.le_refl _) ?_, rfl, q _ (I5.hok.fresh (Nat.le_refl _))⟩
  exact ⟨by rw [List.length_reverse]; exact hz, its.reverse, 0, r.reverse, Heap.get?_push_size _ rfl⟩
end DR

namespace DR
open PySem PySem.Spec PyProof.Rows L2
/-! ### _law_sum_loose -/
theorem none_dr {H H' : Hp} {p b : Addr} {c : Nat} (d : Dr p H H') (hP : Pool H' p c) (h : H' b = none) : H b = none := by
  cases z : H b with
  | none => rfl
  | some o =>
    by_cases hb : b = p
    · obtain ⟨_, _, _, e2, _⟩ := hP.ex
      rw [hb, e2] at h; cases h
    · rw [d b o hb z] at h; cases h
theorem dr_same {H H' H'' : Hp} {p : Addr} (d : Dr p H H') (s : Same H' H'') : Dr p H H'' := fun b x hb e => s _ _ (d b x hb e)
theorem dr_put {H H' : Hp} {p : Addr} {o : HO} (d : Dr p H H') : Dr p H (upd H' p o) := fun b x hb e => by rw [upd_ne hb]; exact d b x hb e
theorem dr_trans {H H' H'' : Hp} {p : Addr} (d : Dr p H H') (d' : Dr p H' H'') : Dr p H H'' := fun b x hb e => d' b x hb (d b x hb e)
theorem dr_refl {H : Hp} {p : Addr} : Dr p H H := fun _ _ _ e => e
theorem gr_at {G H H' : Hp} {b : Addr} {o : HO} (h : H b = none) (e : H' b = some o) : gr G H H' b = some o := by rw [gr_new h]; exact e
theorem gr_dr {G H H' H'' : Hp} {p : Addr} {c : Nat} (hP : Pool H p c) (sG : Same G H) (d : Dr p H' H'') : Same (gr G H H') (gr G H H'') := gr_mono (fun _ e => e) (fun b x e1 e2 => d b x (fun z => by
  obtain ⟨_, _, _, e3, _⟩ := hP.ex
  rw [z, e3] at e1; cases e1) e2) sG
/-- parts told loosely, shown in few signs -/
structure PLs (ds : List PyData) (l : Mul) : Prop where
  each : PySem.W.EachIs PL ds l
  nl : nl.nlAll ds
  bulk : PyData.bulkAll ds ≤ 42 * l.length
  depth : PyData.depthAll ds ≤ 5
theorem nls_app : ∀ {a b : List PyData}, nl.nlAll a → nl.nlAll b → nl.nlAll (a ++ b)
  | [], _, _, h => h
  | _ :: _, _, h, g => ⟨h.1, nls_app h.2 g⟩
theorem bulk_app : ∀ (a b : List PyData), PyData.bulkAll (a ++ b) = PyData.bulkAll a + PyData.bulkAll b
  | [], b => by simp [PyData.bulkAll]
  | x :: a, b => by
    rw [List.cons_append]
    simp only [PyData.bulkAll, bulk_app a b]
    omega
theorem depth_app : ∀ (a b : List PyData), PyData.depthAll (a ++ b) = max (PyData.depthAll a) (PyData.depthAll b)
  | [], b => by simp [PyData.depthAll]
  | x :: a, b => by
    rw [List.cons_append]
    simp only [PyData.depthAll, depth_app a b]
    omega
theorem PLs.app {a b : List PyData} {l m : Mul} (h : PLs a l) (g : PLs b m) : PLs (a ++ b) (l ++ m) := by
  have h1 := h.bulk
  have h2 := g.bulk
  have h3 := h.depth
  have h4 := g.depth
  refine ⟨each_app2 h.each g.each, nls_app h.nl g.nl, ?_, ?_⟩
  · rw [bulk_app, List.length_append]
    omega
  · rw [depth_app]
    omega
theorem each_rev {α β : Type} {R : α → β → Prop} : ∀ {as : List α} {bs : List β}, PySem.W.EachIs R as bs → PySem.W.EachIs R as.reverse bs.reverse
  | _, _, .nil => .nil
  | _, _, .cons h t => by
    rw [List.reverse_cons, List.reverse_cons]
    exact eachs_snoc h (each_rev t)
theorem dps_rev {K : PySem.W.Frag} {H : Hp} : ∀ {vs : List V} {ds : List PyData}, DpAll K H vs ds → DpAll K H vs.reverse ds.reverse
  | _, _, .nil => .nil
  | _, _, .cons h t => by
    rw [List.reverse_cons, List.reverse_cons]
    exact dps_snoc h (dps_rev t)
theorem dps_app {K : PySem.W.Frag} {H : Hp} : ∀ {vs ws : List V} {ds es : List PyData}, DpAll K H vs ds → DpAll K H ws es → DpAll K H (vs ++ ws) (ds ++ es)
  | _, _, _, _, .nil, h => h
  | _, _, _, _, .cons h t, g => .cons h (dps_app t g)
theorem nls_rev : ∀ {a : List PyData}, nl.nlAll a → nl.nlAll a.reverse
  | [], h => h
  | x :: a, h => by
    rw [List.reverse_cons]
    exact nls_app (nls_rev h.2) ⟨h.1, trivial⟩
theorem bulk_rev : ∀ a : List PyData, PyData.bulkAll a.reverse = PyData.bulkAll a
  | [] => rfl
  | x :: a => by
    rw [List.reverse_cons, bulk_app, bulk_rev a]
    simp only [PyData.bulkAll]
    omega
theorem depth_rev : ∀ a : List PyData, PyData.depthAll a.reverse = PyData.depthAll a
  | [] => rfl
  | x :: a => by
    rw [List.reverse_cons, depth_app, depth_rev a]
    simp only [PyData.depthAll]
    omega
theorem PLs.rev {a : List PyData} {l : Mul} (h : PLs a l) : PLs a.reverse l.reverse :=
  ⟨each_rev h.each, nls_rev h.nl, by rw [bulk_rev, List.length_reverse]; exact h.bulk, by rw [depth_rev]; exact h.depth⟩
theorem PL.uk {d : PyData} {q : List Key × Int} (h : PL d q) : UkP q.1 := by
  obtain ⟨x, z, _, _, e, hz⟩ := h
  exact ⟨z, e, hz⟩
theorem pls_uk : ∀ {ds : List PyData} {l : Mul}, PySem.W.EachIs PL ds l → ∀ u ∈ l.map (·.1), NmU u
  | _, _, .nil, u, h => by simp at h
  | _, _, .cons h t, u, hu => by
    rcases List.mem_cons.mp hu with rfl | hu
    · exact h.uk.nmu
    · exact pls_uk t u hu
theorem pls_form {n : Int} {ps l : Mul} {ds : List PyData} (w : WdOk n ps) (h : PySem.W.EachIs PL ds l) (e : ∀ u, lin (isU u) l = lin (isU u) ps) : form (accAll l) = ps := by
  have := form_eq (acc_nod l) w.nod (accA_nm (pls_uk h)) fun u => by rw [getI_acc, e, getI_lin w.nod]
  rw [this, w.one]
theorem lin_rev (F : List Key → Int) (l : Mul) : lin F l.reverse = lin F l := lin_perm (List.reverse_perm l)
theorem bare_word {n : Int} {ps : Mul} (w : WdOk n ps) (e : ps = []) : WL (.int n) (n, ps) := by
  subst e
  have := (show WSh (.int n) n [] from .inl ⟨rfl, rfl⟩).wl (Nat.zero_le _)
  rw [form_nil0] at this
  exact this
def spSLoo (K : PySem.W.Frag) : Sp := fun vs H Q _ => ∃ (p : Addr) (v : V) (c : Nat) (G : Hp) (w : Int × Mul), vs = [.ref p, v] ∧ Pool H p c ∧ c < 80000 ∧ Same G H ∧ G p = none ∧ SumP G v w ∧ WSm w ∧
  ∀ v' d' H' c', Dr p H H' → Pool H' p c' → c' ≤ c + 7 → Dp K (gr G H H') v' d' → WL d' w → nl d' → d'.bulk ≤ 500 → d'.depth ≤ 8 → Q v' H'
abbrev sSLoo : Stmt := topS 39
abbrev NSl : List Str := ["pool", "word", "pairs", "unknown", "many"]
theorem scSLoo : FnScope NSl ["pool", "word"] (defScope sSLoo) := ⟨rfl, rfl, rfl, by decide +kernel, rfl, by decide +kernel, by decide +kernel⟩
theorem pl_tup {u : List Key} {m : Int} {z : Str} (hz : z ∈ nm4) (e : u = [.inr sPiece, .inr z]) (hm : Sz m) : PLs [partD (u, m)] [(u, m)] := by
  obtain ⟨a, b⟩ := part_sh (q := (u, m)) ⟨z, hz, e⟩ hm
  refine ⟨.cons ⟨unkD u, z, rfl, by rw [e]; rfl, e, nm4_ok z hz⟩ .nil, ⟨a, trivial⟩, ?_, ?_⟩
  · simp only [PyData.bulkAll, List.length_cons, List.length_nil]
    omega
  · rw [e]
    simp [partD, unkD, keyDat, PyData.depth, PyData.depthAll]
theorem pl_lst {z : Str} {m : Int} (hz : z ∈ nm4) (hm : Sz m) : PLs [.list [.list [.str sPiece, .str z], .int m]] [([.inr sPiece, .inr z], m)] := by
  have b1 := nm4_bulk z hz
  have b2 := sp_bulk
  refine ⟨.cons ⟨_, z, rfl, rfl, rfl, nm4_ok z hz⟩ .nil, ⟨⟨⟨sp_in, nm4_in z hz, trivial⟩, hm, trivial⟩, trivial⟩, ?_, ?_⟩
  · simp only [PyData.bulkAll, PyData.bulk, List.length_cons, List.length_nil] at b1 b2 ⊢
    omega
  · simp [PyData.depth, PyData.depthAll]
theorem eqv_lnil (ds : List PyData) : PyData.eqv (.list ds) (.list []) = decide (ds = []) := by
  cases ds with
  | nil => rfl
  | cons x xs => simp [PyData.eqv, PyData.eqvAll]
section
variable {P : Program} {w : World} {K : PySem.W.Frag} {mg : Str → Option Value} {base : Heap}
theorem ok_sloo {f : Addr} {fd : FuncData} (F : Fun K "_law_sum_loose" "_law_sum_loose" sSLoo f fd) (T : Bi mg) (GT : Has P w K mg base CX0 3 "_law_take" ["pool", "many"] spTake) (G1 : Has P w K mg base CX0 3 "_law_one" ["pool", "things"] (spOne K)) : FnOk P w K mg base CX0 4 f fd ["pool", "word"] (spSLoo K) := by
  refine F.ok scSLoo (fun vs H Q E h => ?_) (fun cdv A outer s H vs Q E hr h => ?_)
  · obtain ⟨p, v, c, G, wd, rfl, _⟩ := h
    rfl
  · obtain ⟨p, v, c, G, ⟨n, ps⟩, rfl, hP, hc, sG, Gp, ⟨a, b, xs, rfl, ha, hb, hxs⟩, ws, q⟩ := h
    refine ⟨_, (pss_cons (ps_set (i := 2) scSLoo.nd rfl (.inl rfl) (pe_lst pa_nil))
      (pss_cons (ps_for PassesOwn.never rfl (pi_tup (pe_ix ix_tup (pv 1) pe_int (fun _ _ => rfl))) (pg_tup rfl (pgs_cons (pg_name (i := 3) scSLoo.nd rfl (.inl rfl)) (pgs_cons (pg_name (i := 4) scSLoo.nd rfl (.inl rfl)) pgs_nil))) (pss_one (ps_set (i := 2) scSLoo.nd rfl (.inl rfl) (pe_op op_cat (pv 2) (pe_callH G1 hr (by rfl) pass0 (pa_cons (pv 0) (pa_cons (pe_lst (pa_cons (pe_lst (pa_cons (pe_tup (pa_cons (pv 3) (pa_cons (pv 4) pa_nil))) pa_nil)) (pa_cons (pe_lst (pa_cons (pe_tup (pa_cons (pv 3) (pa_cons (pe_op op_sub (pv 4) pe_int) pa_nil))) (pa_cons (pe_lst (pa_cons (pe_callTy call_list_of (by rfl) T.list (by decide +kernel) (pa_cons (pv 3) pa_nil)) (pa_cons pe_int pa_nil))) pa_nil))) (pa_cons (pe_lst (pa_cons (pe_tup (pa_cons (pv 3) (pa_cons (pv 4) pa_nil))) (pa_cons (pe_tup (pa_cons (pv 3) (pa_cons pe_int pa_nil))) pa_nil))) pa_nil)))) pa_nil)))))))
      (pss_cons (ps_if (PW.pt (pw_and (pt_cmpR (op_eqP hr) (pv 2) (pe_lst pa_nil) (nomark _)) (pw_and1 (pt_cmpR op_eq (pe_callH GT hr (by rfl) pass0 (pa_cons (pv 0) (pa_cons pe_int pa_nil))) pe_int (nomark _))))) (pss_one (ps_ret (pe_ix ix_tup (pv 1) pe_int (fun _ _ => rfl)))) pss_nil)
      (pss_one (ps_ret (pe_callH G1 hr (by rfl) pass0 (pa_cons (pv 0) (pa_cons (pe_lst (pa_cons (pe_tup (pa_cons (pe_ix ix_tup (pv 1) pe_int (fun _ _ => rfl)) (pa_cons (pe_revL (pv 2)) pa_nil))) (pa_cons (pe_lst (pa_cons (pe_ix ix_tup (pv 1) pe_int (fun _ _ => rfl)) (pa_cons (pe_callTy call_tuple_of (by rfl) T.tuple (by decide +kernel) (pa_cons (pv 2) pa_nil)) pa_nil))) pa_nil))) pa_nil)))))))), ?_⟩
    have few : ps.length ≤ 5 := ws.ok.few
    have lx : xs.length = ps.length := hxs.length
    have haH := sG _ _ ha
    have hbH := sG _ _ hb
    refine ⟨(by show 0 ≤ sizeLine; decide), fun L0 hL0 => ?_⟩
    have d1 : Dr p H (upd H L0 (.lst [])) := fun b x _ e => same_new hL0 b x e
    have P1 := pool_new (o := .lst []) hP hL0
    have e1 : upd H L0 (.lst []) L0 = some (.lst []) := upd_same
    generalize upd H L0 (.lst []) = H1 at d1 P1 e1 ⊢
    have noP : ∀ {b : Addr} {o : HO}, G b = some o → b ≠ p := fun e => ne_of_none e Gp
    refine ⟨_, rfl, a, _, _, _, rfl, rfl, SqT.of (d1 _ _ (noP ha) haH), at_of (i := 1) rfl, b, rfl, ⟨_, SqT.of (d1 _ _ (noP hb) hbH)⟩, ?_⟩
    refine for_it (walk_tup (xs := xs)) (fun i σ Hj => ∃ (o3 o4 : Option V) (L : Addr) (ts : List V) (ds : List PyData) (l : Mul) (cj : Nat), σ = [some (.ref p), some (.ref a), some (.ref L), o3, o4] ∧ Dr p H Hj ∧ Pool Hj p cj ∧ cj ≤ c + i ∧ H L = none ∧ Hj L = some (.lst ts) ∧ ts.length = ds.length ∧ DpAll K (gr G H Hj) ts ds ∧ PLs ds l ∧ (∀ u, lin (isU u) l = lin (isU u) (ps.take i)) ∧ i ≤ l.length ∧ l.length ≤ 2 * i)
      ⟨none, none, L0, [], [], [], c, rfl, d1, P1, Nat.le_refl _, hL0, e1, rfl, .nil, ⟨.nil, trivial, Nat.le_refl _, Nat.zero_le _⟩, fun u => rfl, Nat.le_refl _, Nat.le_refl _⟩ (fun i σ Hj _ ⟨_, _, _, _, _, _, _, _, dj, _⟩ => SqT.of (dj _ _ (noP hb) hbH)) ?_ ?_
    · rintro i x σ Hj Hj' hi ⟨o3, o4, L, ts, ds, l, cj, rfl, dj, hPj, hcj, hL, hLj, hlt, hts, pls, hlin, hl1, hl2⟩ ⟨rfl, hx⟩
      obtain ⟨u, m, t, e, hum, rfl, ht, he⟩ := part_get hxs hx
      obtain ⟨z, hz, eu⟩ := ws.u4 u (List.mem_map.mpr ⟨(u, m), List.mem_of_getElem? hum, rfl⟩)
      have hm : m.natAbs ≤ 10240 := ws.sm (u, m) (List.mem_of_getElem? hum)
      have i2 : i < ps.length := (List.getElem?_eq_some_iff.mp hum).1
      have szs : ∀ {k : Int}, k.natAbs ≤ 10250 → Sz k := fun hk => Nat.lt_of_le_of_lt hk (by decide)
      have LP : L ≠ p := fun y => by
        obtain ⟨_, _, _, e3, _⟩ := hP.ex
        rw [y, e3] at hL; cases hL
      have htj := dj _ _ (noP ht) (sG _ _ ht)
      have hej := dj _ _ (noP he) (sG _ _ he)
      refine ⟨t, _, rfl, SqT.of htj, rfl, _, _, rfl, _, _, rfl, rfl, ?_⟩
      refine ⟨_, rfl, _, rfl, _, rfl, _, rfl, (by show 2 ≤ sizeLine; decide), fun t1 nt1 => ?_⟩
      have k1 := same_new (o := .tup [V.ref e, V.int m]) nt1
      have g1 : upd Hj' t1 (.tup [V.ref e, V.int m]) t1 = some (.tup [V.ref e, V.int m]) := upd_same
      have Q1 := pool_new (o := .tup [V.ref e, V.int m]) hPj nt1
      generalize upd Hj' t1 (.tup [V.ref e, V.int m]) = J1 at k1 g1 Q1 ⊢
      refine ⟨(by show 1 ≤ sizeLine; decide), fun a1 na1 => ?_⟩
      have k2 := same_new (o := .lst [V.ref t1]) na1
      have g2 : upd J1 a1 (.lst [V.ref t1]) a1 = some (.lst [V.ref t1]) := upd_same
      have Q2 := pool_new (o := .lst [V.ref t1]) Q1 na1
      generalize upd J1 a1 (.lst [V.ref t1]) = J2 at k2 g2 Q2 ⊢
      refine ⟨_, rfl, _, rfl, _, _, rfl, rfl, (by show 2 ≤ sizeLine; decide), fun t2 nt2 => ?_⟩
      have k3 := same_new (o := .tup [V.ref e, V.int (m - 1)]) nt2
      have g3 : upd J2 t2 (.tup [V.ref e, V.int (m - 1)]) t2 = some (.tup [V.ref e, V.int (m - 1)]) := upd_same
      have Q3 := pool_new (o := .tup [V.ref e, V.int (m - 1)]) Q2 nt2
      generalize upd J2 t2 (.tup [V.ref e, V.int (m - 1)]) = J3 at k3 g3 Q3 ⊢
      have he3 := k3 _ _ (k2 _ _ (k1 _ _ hej))
      refine ⟨_, rfl, e, _, rfl, .inr (SqT.of he3), fun l1 nl1 => ?_⟩
      have k4 := same_new (o := .lst (u.map kV)) nl1
      have g4 : upd J3 l1 (.lst (u.map kV)) l1 = some (.lst (u.map kV)) := upd_same
      have Q4 := pool_new (o := .lst (u.map kV)) Q3 nl1
      generalize upd J3 l1 (.lst (u.map kV)) = J4 at k4 g4 Q4 ⊢
      refine ⟨(by show 2 ≤ sizeLine; decide), fun b1 nb1 => ?_⟩
      have k5 := same_new (o := .lst [V.ref l1, V.int 1]) nb1
      have g5 : upd J4 b1 (.lst [V.ref l1, V.int 1]) b1 = some (.lst [V.ref l1, V.int 1]) := upd_same
      have Q5 := pool_new (o := .lst [V.ref l1, V.int 1]) Q4 nb1
      generalize upd J4 b1 (.lst [V.ref l1, V.int 1]) = J5 at k5 g5 Q5 ⊢
      refine ⟨(by show 2 ≤ sizeLine; decide), fun a2 na2 => ?_⟩
      have k6 := same_new (o := .lst [V.ref t2, V.ref b1]) na2
      have g6 : upd J5 a2 (.lst [V.ref t2, V.ref b1]) a2 = some (.lst [V.ref t2, V.ref b1]) := upd_same
      have Q6 := pool_new (o := .lst [V.ref t2, V.ref b1]) Q5 na2
      generalize upd J5 a2 (.lst [V.ref t2, V.ref b1]) = J6 at k6 g6 Q6 ⊢
      refine ⟨_, rfl, _, rfl, (by show 2 ≤ sizeLine; decide), fun t3 nt3 => ?_⟩
      have k7 := same_new (o := .tup [V.ref e, V.int m]) nt3
      have g7 : upd J6 t3 (.tup [V.ref e, V.int m]) t3 = some (.tup [V.ref e, V.int m]) := upd_same
      have Q7 := pool_new (o := .tup [V.ref e, V.int m]) Q6 nt3
      generalize upd J6 t3 (.tup [V.ref e, V.int m]) = J7 at k7 g7 Q7 ⊢
      refine ⟨_, rfl, (by show 2 ≤ sizeLine; decide), fun t4 nt4 => ?_⟩
      have k8 := same_new (o := .tup [V.ref e, V.int 0]) nt4
      have g8 : upd J7 t4 (.tup [V.ref e, V.int 0]) t4 = some (.tup [V.ref e, V.int 0]) := upd_same
      have Q8 := pool_new (o := .tup [V.ref e, V.int 0]) Q7 nt4
      generalize upd J7 t4 (.tup [V.ref e, V.int 0]) = J8 at k8 g8 Q8 ⊢
      refine ⟨(by show 2 ≤ sizeLine; decide), fun a3 na3 => ?_⟩
      have k9 := same_new (o := .lst [V.ref t3, V.ref t4]) na3
      have g9 : upd J8 a3 (.lst [V.ref t3, V.ref t4]) a3 = some (.lst [V.ref t3, V.ref t4]) := upd_same
      have Q9 := pool_new (o := .lst [V.ref t3, V.ref t4]) Q8 na3
      generalize upd J8 a3 (.lst [V.ref t3, V.ref t4]) = J9 at k9 g9 Q9 ⊢
      refine ⟨(by show 3 ≤ sizeLine; decide), fun a0 na0 => ?_⟩
      have kA := same_new (o := .lst [V.ref a1, V.ref a2, V.ref a3]) na0
      have gA : upd J9 a0 (.lst [V.ref a1, V.ref a2, V.ref a3]) a0 = some (.lst [V.ref a1, V.ref a2, V.ref a3]) := upd_same
      have QA := pool_new (o := .lst [V.ref a1, V.ref a2, V.ref a3]) Q9 na0
      have a0p : a0 ≠ p := pool_ne Q9 na0
      generalize upd J9 a0 (.lst [V.ref a1, V.ref a2, V.ref a3]) = JA at kA gA QA ⊢
      have s9 := kA
      have s8 := k9.trans s9
      have s7 := k8.trans s8
      have s6 := k7.trans s7
      have s5 := k6.trans s6
      have s4 := k5.trans s5
      have s3 := k4.trans s4
      have s2 := k3.trans s3
      have s1 := k2.trans s2
      have s0 := k1.trans s1
      have z1 := none_dr dj hPj nt1
      have z2 := none_dr (dr_same dj k1) Q1 na1
      have z3 := none_dr (dr_same dj (k1.trans k2)) Q2 nt2
      have z4 := none_dr (dr_same dj ((k1.trans k2).trans k3)) Q3 nl1
      have z5 := none_dr (dr_same dj (((k1.trans k2).trans k3).trans k4)) Q4 nb1
      have z7 := none_dr (dr_same dj (((((k1.trans k2).trans k3).trans k4).trans k5).trans k6)) Q6 nt3
      have z8 := none_dr (dr_same dj ((((((k1.trans k2).trans k3).trans k4).trans k5).trans k6).trans k7)) Q7 nt4
      refine ⟨p, a0, cj, _, rfl, QA, by omega, .inl (SqL.of gA), a0p, (by show 0 < 3; decide), (by show 3 < 1000000; decide), fun v o hv hPB => ?_⟩
      have dB : Dr p H (upd JA p o) := dr_put (dr_same dj s0)
      have kB : ∀ b x, b ≠ p → JA b = some x → upd JA p o b = some x := fun b x hb e => by rw [upd_ne hb]; exact e
      generalize upd JA p o = JB at hPB dB kB ⊢
      have at_ : ∀ {b : Addr} {x : HO}, H b = none → b ≠ p → JA b = some x → gr G H JB b = some x := fun h0 hb e => gr_at h0 (kB _ _ hb e)
      have dUnk : Dp K (gr G H JB) (.ref e) (unkD u) := .tup (SqT.of (gr_has sG _ _ he)) (dps_keys u)
      have tp : ∀ {b : Addr} {ys : List V}, JA b = some (.tup ys) → b ≠ p := fun e y => by
        obtain ⟨_, _, _, e3, _⟩ := QA.ex
        rw [y, e3] at e; cases e
      obtain ⟨ai, its, ds2, l2, rfl, hai, aip, hits, pls2, hlin2, hb1, hb2⟩ : ∃ (ai : Addr) (its : List V) (ds2 : List PyData) (l2 : Mul), v = .ref ai ∧ JA ai = some (.lst its) ∧ ai ≠ p ∧ DpAll K (gr G H JB) its ds2 ∧ PLs ds2 l2 ∧ (∀ u', lin (isU u') l2 = m * isU u' u) ∧ 1 ≤ l2.length ∧ l2.length ≤ 2 := by
        have dt : ∀ {b : Addr} {k : Int}, H b = none → JA b = some (.tup [.ref e, .int k]) → Dp K (gr G H JB) (.ref b) (partD (u, k)) := fun h0 e => .tup (SqT.of (at_ h0 (tp e) e)) (.cons dUnk (.cons (.int _) .nil))
        rcases List.mem_cons.mp hv with rfl | hv
        · refine ⟨a1, _, _, _, rfl, s2 _ _ g2, pool_ne Q1 na1, .cons (dt z1 (s1 _ _ g1)) .nil, pl_tup hz eu (szs (by omega)), fun u' => ?_, Nat.le_refl _, by show 1 ≤ 2; decide⟩
          simp [lin]
        rcases List.mem_cons.mp hv with rfl | hv
        · have b1p : b1 ≠ p := pool_ne Q4 nb1
          have l1p : l1 ≠ p := pool_ne Q3 nl1
          have p1 := pl_tup (u := u) (m := m - 1) hz eu (szs (by omega))
          have p2 := pl_lst (z := z) (m := 1) hz (szs (by decide))
          refine ⟨a2, _, _, _, rfl, s6 _ _ g6, pool_ne Q5 na2, .cons (dt z3 (s3 _ _ g3)) (.cons (.lst (SqL.of (at_ z5 b1p (s5 _ _ g5))) (.cons (.lst (SqL.of (at_ z4 l1p (s4 _ _ g4))) ?_) (.cons (.int 1) .nil))) .nil), p1.app p2, fun u' => ?_, by show 1 ≤ 2; decide, Nat.le_refl _⟩
          · rw [eu]
            exact dps_keys _
          · rw [← eu]
            simp only [lin, List.cons_append, List.nil_append]
            rw [Int.sub_mul]
            omega
        rcases List.mem_cons.mp hv with rfl | hv
        · have p1 := pl_tup (u := u) (m := m) hz eu (szs (by omega))
          have p2 := pl_tup (u := u) (m := 0) hz eu (szs (by decide))
          refine ⟨a3, _, _, _, rfl, s9 _ _ g9, pool_ne Q8 na3, .cons (dt z7 (s7 _ _ g7)) (.cons (dt z8 (s8 _ _ g8)) .nil), p1.app p2, fun u' => ?_, by show 1 ≤ 2; decide, Nat.le_refl _⟩
          simp [lin]
        · cases hv
      have hLB := kB _ _ LP (s0 _ _ hLj)
      have haiB := kB _ _ aip hai
      have leni : its.length = ds2.length := go2 hits
      have lend : ds2.length = l2.length := pls2.each.length
      have lend0 : ds.length = l.length := pls.each.length
      refine ⟨L, ai, ts, its, rfl, rfl, hLB, haiB, Nat.le_of_lt (small1000 (by omega)), fun L' hL' => ?_⟩
      have sC := same_new (o := .lst (ts ++ its)) hL'
      have dC := dr_same dB sC
      have PC := pool_new (o := .lst (ts ++ its)) hPB hL'
      have m1 : Same (gr G H Hj') (gr G H (upd JB L' (.lst (ts ++ its)))) := gr_dr hP sG (fun b x hb e => sC _ _ (kB _ _ hb (s0 _ _ e)))
      have m2 : Same (gr G H JB) (gr G H (upd JB L' (.lst (ts ++ its)))) := gr_dr hP sG (fun b x hb e => sC _ _ e)
      refine ⟨_, _, L', ts ++ its, ds ++ ds2, l ++ l2, cj + 1, rfl, dC, PC, by omega, none_dr dB hPB hL', upd_same, by rw [List.length_append, List.length_append]; omega, dps_app (dps_same m1 hts) (dps_same m2 hits), pls.app pls2, fun u' => ?_, by rw [List.length_append]; omega, by rw [List.length_append]; omega⟩
      rw [lin_app, hlin, hlin2, List.take_add_one, hum, lin_app]
      simp [lin]
    · rintro σ Hj ⟨o3, o4, L, ts, ds, l, cj, rfl, dj, hPj, hcj, hL, hLj, hlt, hts, pls, hlin, hl1, hl2⟩
      rw [lx] at hcj hl1 hl2 hlin
      rw [List.take_length] at hlin
      have LP : L ≠ p := fun y => by
        obtain ⟨_, _, _, e3, _⟩ := hP.ex
        rw [y, e3] at hL; cases hL
      have lend : ds.length = l.length := pls.each.length
      refine ⟨_, rfl, (by show 0 ≤ sizeLine; decide), fun e1 ne1 => ?_⟩
      have k1 := same_new (o := .lst []) ne1
      have g1 : upd Hj e1 (.lst []) e1 = some (.lst []) := upd_same
      have Q1 := pool_new (o := .lst []) hPj ne1
      generalize upd Hj e1 (.lst []) = J1 at k1 g1 Q1 ⊢
      have dJ1 := dr_same dj k1
      have htsJ := dps_same ((gr_mono (fun _ e => e) (fun b x _ e => k1 _ _ e) sG : Same (gr G H Hj) (gr G H J1)).trans (gr_sub (same_dr sG Gp dJ1))) hts
      refine ⟨.list ds, .list [], .lst (SqL.of (k1 _ _ hLj)) htsJ, .lst (SqL.of g1) .nil, ?_, rfl, ?_, _, rfl, ?_⟩
      · have := (nl_shows ds pls.nl).2.2.2
        simpa [PyData.plain] using this
      · have := pls.depth
        simp only [PyData.depth]
        omega
      rw [eqv_lnil]
      have last : ∀ {Hk : Hp} {ck : Nat}, Dr p Hj Hk → Pool Hk p ck → ck ≤ cj + 1 → tCall (spOne K) [] E0 (tCons (tVar 0) (tCons (tLst (tCons (tTup (tCons (tOp (rIxT K) (tVar 1) (tC (.int 0))) (tCons (tRevL K (tVar 2)) tNil))) (tCons (tLst (tCons (tOp (rIxT K) (tVar 1) (tC (.int 0))) (tCons (tCB (fun xs H Q => ∃ p ys, xs = [.ref p] ∧ ((SqL K H p ys ∧ ∀ l, H l = none → Q (.ref l) (upd H l (.tup ys))) ∨ (SqT K H p ys ∧ Q (.ref p) H))) (tCons (tVar 2) tNil)) tNil))) tNil))) tNil)) [some (.ref p), some (.ref a), some (.ref L), o3, o4] Hk Q := by
        intro Hk ck dk hPk hck
        have d0 := dr_trans dj dk
        have haK := d0 _ _ (noP ha) haH
        have hLK := dk _ _ LP hLj
        refine ⟨_, rfl, _, rfl, a, _, _, _, rfl, rfl, SqT.of haK, at_of (i := 0) rfl, _, rfl, L, ts, rfl, SqL.of hLK, fun r1 nr1 => ?_⟩
        have k1 := same_new (o := .lst ts.reverse) nr1
        have g1 : upd Hk r1 (.lst ts.reverse) r1 = some (.lst ts.reverse) := upd_same
        have Q1 := pool_new (o := .lst ts.reverse) hPk nr1
        generalize upd Hk r1 (.lst ts.reverse) = K1 at k1 g1 Q1 ⊢
        refine ⟨(by show 2 ≤ sizeLine; decide), fun t1 nt1 => ?_⟩
        have k2 := same_new (o := .tup [V.int n, V.ref r1]) nt1
        have g2 : upd K1 t1 (.tup [V.int n, V.ref r1]) t1 = some (.tup [V.int n, V.ref r1]) := upd_same
        have Q2 := pool_new (o := .tup [V.int n, V.ref r1]) Q1 nt1
        generalize upd K1 t1 (.tup [V.int n, V.ref r1]) = K2 at k2 g2 Q2 ⊢
        refine ⟨_, rfl, a, _, _, _, rfl, rfl, SqT.of (k2 _ _ (k1 _ _ haK)), at_of (i := 0) rfl, _, rfl, L, ts, rfl, .inl ⟨SqL.of (k2 _ _ (k1 _ _ hLK)), fun r2 nr2 => ?_⟩⟩
        have k3 := same_new (o := .tup ts) nr2
        have g3 : upd K2 r2 (.tup ts) r2 = some (.tup ts) := upd_same
        have Q3 := pool_new (o := .tup ts) Q2 nr2
        generalize upd K2 r2 (.tup ts) = K3 at k3 g3 Q3 ⊢
        refine ⟨(by show 2 ≤ sizeLine; decide), fun b1 nb1 => ?_⟩
        have k4 := same_new (o := .lst [V.int n, V.ref r2]) nb1
        have g4 : upd K3 b1 (.lst [V.int n, V.ref r2]) b1 = some (.lst [V.int n, V.ref r2]) := upd_same
        have Q4 := pool_new (o := .lst [V.int n, V.ref r2]) Q3 nb1
        generalize upd K3 b1 (.lst [V.int n, V.ref r2]) = K4 at k4 g4 Q4 ⊢
        refine ⟨(by show 2 ≤ sizeLine; decide), fun a0 na0 => ?_⟩
        have k5 := same_new (o := .lst [V.ref t1, V.ref b1]) na0
        have g5 : upd K4 a0 (.lst [V.ref t1, V.ref b1]) a0 = some (.lst [V.ref t1, V.ref b1]) := upd_same
        have Q5 := pool_new (o := .lst [V.ref t1, V.ref b1]) Q4 na0
        have a0p : a0 ≠ p := pool_ne Q4 na0
        generalize upd K4 a0 (.lst [V.ref t1, V.ref b1]) = K5 at k5 g5 Q5 ⊢
        have s4 := k5
        have s3 := k4.trans s4
        have s2 := k3.trans s3
        have s1 := k2.trans s2
        have s0 := k1.trans s1
        have z1 := none_dr d0 hPk nr1
        have z2 := none_dr (dr_same d0 k1) Q1 nt1
        have z3 := none_dr (dr_same d0 (k1.trans k2)) Q2 nr2
        have z4 := none_dr (dr_same d0 ((k1.trans k2).trans k3)) Q3 nb1
        refine ⟨p, a0, ck, _, rfl, Q5, by omega, .inl (SqL.of g5), a0p, (by show 0 < 2; decide), (by show 2 < 1000000; decide), fun v o hv hPB => ?_⟩
        have dB : Dr p H (upd K5 p o) := dr_put (dr_same d0 s0)
        have kB : ∀ b x, b ≠ p → K5 b = some x → upd K5 p o b = some x := fun b x hb e => by rw [upd_ne hb]; exact e
        generalize upd K5 p o = KB at hPB dB kB ⊢
        have mB : Same (gr G H Hj) (gr G H KB) := gr_dr hP sG (fun b x hb e => kB _ _ hb (s0 _ _ (dk _ _ hb e)))
        have dts := dps_same mB hts
        have at_ : ∀ {b : Addr} {x : HO}, H b = none → b ≠ p → K5 b = some x → gr G H KB b = some x := fun h0 hb e => gr_at h0 (kB _ _ hb e)
        have bk := pls.bulk
        have dp := pls.depth
        have rv := pls.rev
        have bk2 := rv.bulk
        have dp2 := rv.depth
        rw [List.length_reverse] at bk2
        rcases List.mem_cons.mp hv with rfl | hv
        · have w1 : WL (.tuple [.int n, .list ds.reverse]) (n, form (accAll l.reverse)) := (show WSh (.tuple [.int n, .list ds.reverse]) n l.reverse from .inr ⟨_, _, rfl, rfl, rv.each⟩).wl (by rw [List.length_reverse]; omega)
          rw [pls_form ws.ok rv.each (fun u => by rw [lin_rev, hlin])] at w1
          refine q _ (.tuple [.int n, .list ds.reverse]) KB (ck + 1) dB hPB (by omega) (.tup (SqT.of (at_ z2 (pool_ne Q1 nt1) (s2 _ _ g2))) (.cons (.int n) (.cons (.lst (SqL.of (at_ z1 (pool_ne hPk nr1) (s1 _ _ g1))) (dps_rev dts)) .nil))) w1 ⟨ws.ok.nz, rv.nl, trivial⟩ ?_ ?_
          · simp only [PyData.bulk, PyData.bulkAll]
            omega
          · simp only [PyData.depth, PyData.depthAll]
            omega
        rcases List.mem_cons.mp hv with rfl | hv
        · have w1 : WL (.list [.int n, .tuple ds]) (n, form (accAll l)) := (show WSh (.list [.int n, .tuple ds]) n l from .inr ⟨_, _, rfl, rfl, pls.each⟩).wl (by omega)
          rw [pls_form ws.ok pls.each hlin] at w1
          refine q _ (.list [.int n, .tuple ds]) KB (ck + 1) dB hPB (by omega) (.lst (SqL.of (at_ z4 (pool_ne Q3 nb1) (s4 _ _ g4))) (.cons (.int n) (.cons (.tup (SqT.of (at_ z3 (pool_ne Q2 nr2) (s3 _ _ g3))) dts) .nil))) w1 ⟨ws.ok.nz, pls.nl, trivial⟩ ?_ ?_
          · simp only [PyData.bulk, PyData.bulkAll]
            omega
          · simp only [PyData.depth, PyData.depthAll]
            omega
        · cases hv
      by_cases hd : ds = []
      · rw [decide_eq_true hd]
        have l0 : l = [] := List.eq_nil_of_length_eq_zero (by rw [← lend, hd]; rfl)
        have p0 : ps = [] := List.eq_nil_of_length_eq_zero (by rw [l0] at hl1; exact Nat.le_zero.mp hl1)
        refine iteT ⟨_, rfl, p, cj, 2, rfl, Q1, by omega, by decide, by decide, fun r o r0 r2 hP2 => ?_⟩
        have d2 : Dr p Hj (upd J1 p o) := dr_put (dr_same dr_refl k1)
        refine ⟨rfl, _, rfl, ?_⟩
        rw [eq_int]
        by_cases rz : r = 0
        · rw [decide_eq_true rz]
          have d02 := dr_trans dj d2
          exact iteT ⟨_, rfl, a, _, _, _, rfl, rfl, SqT.of (d02 _ _ (noP ha) haH), at_of (i := 0) rfl, q (.int n) (.int n) _ (cj + 1) d02 hP2 (by omega) (.int n) (bare_word ws.ok p0) ws.ok.nz (Nat.zero_le _) (Nat.zero_le _)⟩
        · rw [decide_eq_false rz]
          exact iteF (last d2 hP2 (Nat.le_refl _))
      · rw [decide_eq_false hd]
        exact iteF (iteF (last (dr_same dr_refl k1) Q1 (Nat.le_succ _)))
end
end DR

namespace DR
open PySem PySem.Spec PyProof.Rows L2
/-! ### try with several clauses that name the error -/
abbrev Suite := Addr → Value → Option Addr → TS
def wAll (K : PySem.W.Frag) (out : WX) (D : Ends) : List (Value × Nat × Suite) → WX
  | [] => out
  | (c, i, ts) :: more => fun cls d σ H => ∃ yes, PySem.W.exmOne K cls c = some yes ∧
      (yes = true → ∀ e, H e = none → ts e cls d ⟨fun σ1 H1 => D.nx (σ1.set i none) H1, D.rt, fun σ1 H1 => D.bk (σ1.set i none) H1, fun σ1 H1 => D.ct (σ1.set i none) H1⟩ (σ.set i (some (.ref e))) H) ∧ (yes = false → wAll K out D more cls d σ H)
inductive Clauses (X : Cx) : List ExceptHandler → List (Value × Nat × Suite) → Prop
  | none : Clauses X [] []
  | more {x nm : Str} {c : Value} {i : Nat} {ts : Suite} {st : Stmt} {sts : List Stmt} {q1 q2 : Pos} {hds : List ExceptHandler} {l : List (Value × Nat × Suite)} (hi : X.N[i]? = some nm) (hl : X.env.kindOf nm = some .local) (hc : Names X x c)
      (hs : ∀ (e : Addr) (oe : Obj) (cls : Value) (d : Option Addr) (pn : List (Addr × Obj)), Zc cls d oe → (∃ fs, oe.data = .fields fs) → PSs (X.suite e ((e, oe) :: pn)) (st :: sts) (ts e cls d)) (rest : Clauses X hds l) :
      Clauses X (.ExceptHandler (some (.Name x q1)) (some nm) (st :: sts) q2 :: hds) ((c, i, ts) :: l)
theorem ps_tryN {X : Cx} {body : List Stmt} {h0 : ExceptHandler} {hds : List ExceptHandler} {l : List (Value × Nat × Suite)} {pos : Pos} {tb : WX → TS} {out : WX} (e1 : X.stack = X.env :: X.outer) (e2 : X.env.frame = some X.env.locals) (nd : X.N.Nodup) (tk : Takes X out)
    (hb : ∀ (W : WX) (pn : List (Addr × Obj)) (xe : Value → Shared → Prop), Takes (X.tr pn xe) W → PassesOwn (model X.prog X.w) X.A X.env xe → PSs (X.tr pn xe) body (tb W))
    (hh : Clauses X (h0 :: hds) l) : PS X (.Try body (h0 :: hds) [] [] pos) (fun D σ H => tb (wAll X.K out D l) D σ H) := by
  constructor
  intro pins s σ H D I h
  have okX := I.ok
  have fr : X.A.frames = some (X.env :: X.outer) := okX.frames.trans (by rw [e1])
  refine wpAny_Try_except (wpAny_mono ((hb (wAll X.K out D l) (X.pn ++ pins) (fun ev s₁ => wpAny (model X.prog X.w) X.A (noteFrame ev X.env) (fun _ s₂ => wpAny (model X.prog X.w) X.A (setFlight ev none) (fun _ s₃ =>
      wpAny (model X.prog X.w) X.A (handleBy ev X.env (h0 :: hds)) (SP X pins D) X.xe s₃) X.xe s₂) X.xe s₁) ?caught PassesOwn.looking).run [] s σ H D (I.toTry _) h) ?through fun _ _ z => z)
  case through =>
    intro fl s1 hsp
    cases fl with
    | next => exact let ⟨σ1, H1, J, q⟩ := hsp; wpAny_execs_nil ⟨σ1, H1, J.ofTry okX, q⟩
    | brk => exact let ⟨σ1, H1, J, q⟩ := hsp; ⟨σ1, H1, J.ofTry okX, q⟩
    | cont => exact let ⟨σ1, H1, J, q⟩ := hsp; ⟨σ1, H1, J.ofTry okX, q⟩
    | ret u => exact let ⟨v, σ1, H1, J, r, q⟩ := hsp; ⟨v, σ1, H1, J.ofTry okX, r, q⟩
  case caught =>
    intro u s1 flying
    obtain ⟨a, B, sI, pins1, σ1, H1, cls, d, rfl, J0, nb, up, sky, na, os, ag, wish⟩ := flying
    have J : Inv X pins σ1 H1 sI := J0.ofTry okX
    refine Sky.land (A := X.A) (env := X.env) (outer := X.outer) (L := X.env.locals) Zc.steady fr e2 (by rw [← e1]; exact sky) fun h3 fl3 up3 => ?_
    have J3 : Inv X pins σ1 H1 { s1 with heap := h3 } := J.landed nb fl3.1 (up.trans up3) os ag
    obtain ⟨o3, w3, g3, z3, d3⟩ := fl3.there
    have out_of : a ∉ frs (X.env :: X.outer) := fun hm => by
      obtain ⟨_, ob, g, notf⟩ := fl3.2.2.1.mem hm
      have same : o3 = ob := Option.some.inj (g3.symm.trans g)
      rw [same] at d3
      exact notf _ d3
    have nL : a ≠ X.env.locals := fun z => out_of (List.mem_filterMap.mpr ⟨X.env, .head _, e2.trans (by rw [z])⟩)
    have nF : a ∉ X.fs := fun hm => let ⟨e, he, q⟩ := List.mem_filterMap.mp hm; out_of (List.mem_filterMap.mpr ⟨e, .tail _ he, q⟩)
    have S3 := J3.suite g3 d3 na nL nF
    have each : ∀ {hs' : List ExceptHandler} {l' : List (Value × Nat × Suite)}, Clauses X hs' l' → wAll X.K out D l' cls d σ1 H1 → wpAny (model X.prog X.w) X.A (handleBy (.ref a) X.env hs') (SP X pins D) X.xe { s1 with heap := h3 } := by
      intro hs' l' C
      induction C with
      | none =>
        intro wo
        obtain ⟨k1, k2, k3, oe, vs, TB, oT, ts', he, hz, hd, ht, hr⟩ := id fl3
        have thrown : wpAny (model X.prog X.w) X.A (setFlight (.ref a) X.env.frame) (fun _ s4 => wpAny (model X.prog X.w) X.A (throw (.ref a) : Sem Flow) (SP X pins D) X.xe s4) X.xe { s1 with heap := h3 } := by
          rw [e2]
          refine HandSPX.setFlight_upZ fl3 fun h4 held up4 => wpAny_throw (tk _ _ ⟨a, B, sI, pins, σ1, H1, cls, d, rfl, J, nb, (up.trans up3).trans up4, .inr (.inr ?_), na, os, ag, wo⟩)
          rw [e1]
          exact held
        refine wpAny_handleBy_nil ?_
        unfold PySem.passOn
        refine wpAny_bind (wpAny_field he hd ht ?_)
        rw [if_neg (by simp : ¬ ((Value.ref TB == Value.none) = true))]
        first | exact wpAny_bind (wpAny_pure (wpAny_bind thrown)) | exact wpAny_bind thrown
      | @more x nm c i ts st sts q1 q2 hds2 l2 hi hl hc hs rest ih =>
        intro wo
        obtain ⟨yes, hy, on, off⟩ := wo
        have LM := PySem.W.exm_one (M := model X.prog X.w) J3.kIn (fun A Q E s k q => wpAny_typeOf_ref (k _ _ g3) (by rw [z3.1]; exact q)) hy
        have named : ∀ {Q : Value → Shared → Prop} {E : Value → Shared → Prop}, Q c { s1 with heap := h3 } → wpAny (model X.prog X.w) (X.A.mark (some (.ref a))) (eval (.Name x q1) X.env) Q E { s1 with heap := h3 } := fun {Q E} q => by
          obtain ⟨gl, dbg, m1 | ⟨m1, m2, m3⟩⟩ := hc
          · exact ld_glob (X := X.suite a ((a, o3) :: (X.pn ++ pins))) S3 gl m1 q dbg
          · exact ld_blt (X := X.suite a ((a, o3) :: (X.pn ++ pins))) S3 gl m1 m2 q m3 dbg
        refine wpAny_handleBy_cons (codeAny_handlers_test (named (LM.here ?_))) (by intro q; cases q)
        cases yes with
        | false => exact ih (off rfl)
        | true =>
          refine codeAny_handlers_suite_as (HandSPX.lands_againZ fl3 fun h4 fl4 up4 => ?_)
          obtain ⟨o4, w4, g4, z4, d4⟩ := fl4.there
          have J4 : Inv X pins σ1 H1 { s1 with heap := h4 } := J.landed nb fl4.1 ((up.trans up3).trans up4) os ag
          refine store_ok (X := X.suite a ((a, o4) :: (X.pn ++ pins))) (v := .ref a) (J4.suite g4 d4 na nL nF) nd hi (.inl hl) rfl (fun s5 S5 => ?_) (.inr hl)
          refine wpAny_mono ((hs a o4 cls d (X.pn ++ pins) z4 ⟨_, d4⟩).run [] s5 _ H1 _ S5 (on rfl a na)) (fun fl s6 hsp => ?_) fun _ _ z => z.elim
          have gone : ∀ {σ6 : L2.St} {H6 : Hp} {Q : Shared → Prop}, Inv (X.suite a ((a, o4) :: (X.pn ++ pins))) [] σ6 H6 s6 → (∀ s7, Inv X pins (σ6.set i Option.none) H6 s7 → Q s7) →
              wpAny (model X.prog X.w) X.A (do bindName X.env nm .none; unbindBehindTheSuite X.env nm q2) (fun _ s7 => Q s7) X.xe s6 := fun S6 k => gone_ok (S6.unsuite okX) nd hi hl k
          cases fl with
          | next => exact let ⟨_, _, S6, q6⟩ := hsp; gone S6 fun s7 J7 => ⟨_, _, J7, q6⟩
          | brk => exact let ⟨_, _, S6, q6⟩ := hsp; gone S6 fun s7 J7 => ⟨_, _, J7, q6⟩
          | cont => exact let ⟨_, _, S6, q6⟩ := hsp; gone S6 fun s7 J7 => ⟨_, _, J7, q6⟩
          | ret u => exact let ⟨_, _, _, S6, r6, q6⟩ := hsp; gone S6 fun s7 J7 => ⟨_, _, _, J7, r6, q6⟩
    exact each hh wish
end DR

namespace DR
open PySem PySem.Spec PyProof.Rows L2
/-! ### _law_met -/
abbrev sMet : Stmt := topS 40
theorem scMet : FnScope ["ask", "e"] ["ask"] (defScope sMet) := ⟨rfl, rfl, rfl, by decide +kernel, rfl, by decide +kernel, by decide +kernel⟩
def Met1 (z : Str) (v : V) (H : Hp) (Q : VK) : Prop := ∀ p, H p = none → Q (.ref p) (upd H p (.tup [.str z, v]))
def Met2 (z : Str) (v u : V) (H : Hp) (Q : VK) : Prop := ∀ p1 p2, H p1 = none → upd H p1 (.tup [v, u]) p2 = none → Q (.ref p2) (upd (upd H p1 (.tup [v, u])) p2 (.tup [.str z, .ref p1]))
/-- what the errors come to -/
inductive MetE (CB CW CS CN : Addr) (Q : VK) : Value → Option Addr → Hp → Prop
  | piece {dd : Addr} {v : V} {H : Hp} : H dd = some (.xd [("index", v)]) → Met1 "piece" v H Q → MetE CB CW CS CN Q (.ref CB) (some dd) H
  | word {dd : Addr} {v u : V} {H : Hp} : H dd = some (.xd [("k", u), ("p", v)]) → Met2 "word" v u H Q → MetE CB CW CS CN Q (.ref CW) (some dd) H
  | start {dd : Addr} {v : V} {H : Hp} : H dd = some (.xd [("address", v)]) → Met1 "start" v H Q → MetE CB CW CS CN Q (.ref CS) (some dd) H
  | no {dd : Addr} {v u : V} {H : Hp} : H dd = some (.xd [("k", u), ("p", v)]) → Met2 "no" v u H Q → MetE CB CW CS CN Q (.ref CN) (some dd) H
def TMet (CB CW CS CN : Addr) : (XK → Hp → VK → Prop) → Hp → VK → Prop := fun tl H Q => tl (MetE CB CW CS CN Q) H fun v H1 => 2 ≤ sizeLine ∧ ∀ p, H1 p = none → Q (.ref p) (upd H1 p (.tup [.str "told", v]))
theorem takes_len {X : Cx} {W W' : WX} (tk : Takes X W) (h : ∀ cls d σ H, σ.length = X.N.length → W' cls d σ H → W cls d σ H) : Takes X W' := fun u s' x => by
  obtain ⟨a, B, sI, pins, σ, H, cls, d, e, I, r1, r2, r3, r4, r5, r6, w⟩ := x
  exact tk u s' ⟨a, B, sI, pins, σ, H, cls, d, e, I, r1, r2, r3, r4, r5, r6, h cls d σ H I.len w⟩
theorem set_one {σ : L2.St} {v : V} (h : σ.length = 2) : (σ.set 1 (some v))[1]? = some (some v) := by
  rw [List.getElem?_set_self (by omega)]
structure ErrM (K : PySem.W.Frag) (mg : Str → Option Value) (CB CW CS CN : Addr) : Prop where
  mB : mg "BadPiece" = some (.ref CB)
  mW : mg "BadWord" = some (.ref CW)
  mS : mg "BadStart" = some (.ref CS)
  mN : mg "NoWord" = some (.ref CN)
  tB : PySem.W.exmOne K (.ref CB) (.ref CB) = some true
  tW : PySem.W.exmOne K (.ref CW) (.ref CW) = some true
  tS : PySem.W.exmOne K (.ref CS) (.ref CS) = some true
  tN : PySem.W.exmOne K (.ref CN) (.ref CN) = some true
  oWB : PySem.W.exmOne K (.ref CW) (.ref CB) = some false
  oSB : PySem.W.exmOne K (.ref CS) (.ref CB) = some false
  oSW : PySem.W.exmOne K (.ref CS) (.ref CW) = some false
  oNB : PySem.W.exmOne K (.ref CN) (.ref CB) = some false
  oNW : PySem.W.exmOne K (.ref CN) (.ref CW) = some false
  oNS : PySem.W.exmOne K (.ref CN) (.ref CS) = some false
  xB : XfC K CB
  xW : XfC K CW
  xS : XfC K CS
  xN : XfC K CN
  nB : PySem.W.findIn K (.ref CB) "index" = some none
  nW : PySem.W.findIn K (.ref CW) "p" = some none
  nW2 : PySem.W.findIn K (.ref CW) "k" = some none
  nS : PySem.W.findIn K (.ref CS) "address" = some none
  nN : PySem.W.findIn K (.ref CN) "p" = some none
  nN2 : PySem.W.findIn K (.ref CN) "k" = some none
theorem met_gives {X : Cx} {g CB CW CS CN : Addr} {cdg : Value} {q : Str} (M : ErrM X.K X.mg CB CW CS CN) :
    LamX.GivesTo X ["ask", "e"] "_law_met" (defScope sMet) g cdg (defBody sMet) "ask" q (TMet CB CW CS CN) := by
  intro f c' s H Q tl act hc h
  refine ⟨_, pss_one (ps_tryN (X := (cxOf CX0 X.prog X.w X.K X.mg X.base ["ask", "e"] "_law_met" (defScope sMet) g cdg X.A X.stack s H E0).nox) (out := fun _ _ _ _ => False)
      (tb := fun W D σ H => ∃ Ech : XK, (∀ cls d σ' H', σ'.length = 2 → Ech cls d H' → W cls d σ' H') ∧ σ[0]? = some (some (.ref f)) ∧ H c' = some (LamX.CodeO c' q) ∧ tl Ech H fun v H1 => 2 ≤ sizeLine ∧ ∀ p, H1 p = none → D.rt (.ref p) (upd H1 p (.tup [.str "told", v])))
      rfl rfl scMet.nd LamX.takes0 (fun W pn xe tk _ => ?_)
      (.more (i := 1) (c := .ref CB) rfl rfl ⟨rfl, by decide, .inl M.mB⟩ (fun e oe cls d pn hz hf => pss_one (ps_ret (pe_tup (pa_cons pe_str (pa_cons (by exact pe_xf M.xB M.nB hz hf (pv 1)) pa_nil)))))
        (.more (i := 1) (c := .ref CW) rfl rfl ⟨rfl, by decide, .inl M.mW⟩ (fun e oe cls d pn hz hf => pss_one (ps_ret (pe_tup (pa_cons pe_str (pa_cons (pe_tup (pa_cons (by exact pe_xf M.xW M.nW hz hf (pv 1)) (pa_cons (by exact pe_xf M.xW M.nW2 hz hf (pv 1)) pa_nil))) pa_nil)))))
        (.more (i := 1) (c := .ref CS) rfl rfl ⟨rfl, by decide, .inl M.mS⟩ (fun e oe cls d pn hz hf => pss_one (ps_ret (pe_tup (pa_cons pe_str (pa_cons (by exact pe_xf M.xS M.nS hz hf (pv 1)) pa_nil)))))
        (.more (i := 1) (c := .ref CN) rfl rfl ⟨rfl, by decide, .inl M.mN⟩ (fun e oe cls d pn hz hf => pss_one (ps_ret (pe_tup (pa_cons pe_str (pa_cons (pe_tup (pa_cons (by exact pe_xf M.xN M.nN hz hf (pv 1)) (pa_cons (by exact pe_xf M.xN M.nN2 hz hf (pv 1)) pa_nil))) pa_nil))))) .none))))), ?_⟩
  · refine ⟨fun pins s' σ H' D I h' => ?_⟩
    obtain ⟨Ech, hW, h1, h2, h3⟩ := h'
    exact (pss_one (ps_ret (pe_tup (pa_cons pe_str (pa_cons (act (fun cls d _ H => Ech cls d H) pn xe Ech _ _ (takes_len tk fun cls d σ H hl h => hW cls d σ H hl h) (fun _ _ _ _ h => h)) pa_nil))))).run pins s' σ H' D I ⟨h1, h2, h3⟩
  · refine ⟨MetE CB CW CS CN Q, fun cls d σ' H' hl hm => ?_, rfl, hc, h⟩
    cases hm with
    | @piece dd v _ hd k =>
      refine ⟨true, M.tB, fun _ e he => ?_, fun z => Bool.noConfusion z⟩
      exact ⟨_, set_one hl, rfl, rfl, dd, _, v, rfl, hd, by simp [List.lookup], (by show 2 ≤ sizeLine; decide), k⟩
    | @word dd v u _ hd k =>
      refine ⟨false, M.oWB, fun z => Bool.noConfusion z, fun _ => ⟨true, M.tW, fun _ e he => ?_, fun z => Bool.noConfusion z⟩⟩
      exact ⟨_, set_one hl, rfl, rfl, dd, _, v, rfl, hd, rfl, _, set_one hl, rfl, rfl, dd, _, u, rfl, hd, rfl, (by show 2 ≤ sizeLine; decide), fun p1 h1 => ⟨(by show 2 ≤ sizeLine; decide), fun p2 h2 => k p1 p2 h1 h2⟩⟩
    | @start dd v _ hd k =>
      refine ⟨false, M.oSB, fun z => Bool.noConfusion z, fun _ => ⟨false, M.oSW, fun z => Bool.noConfusion z, fun _ => ⟨true, M.tS, fun _ e he => ?_, fun z => Bool.noConfusion z⟩⟩⟩
      exact ⟨_, set_one hl, rfl, rfl, dd, _, v, rfl, hd, by simp [List.lookup], (by show 2 ≤ sizeLine; decide), k⟩
    | @no dd v u _ hd k =>
      refine ⟨false, M.oNB, fun z => Bool.noConfusion z, fun _ => ⟨false, M.oNW, fun z => Bool.noConfusion z, fun _ => ⟨false, M.oNS, fun z => Bool.noConfusion z, fun _ => ⟨true, M.tN, fun _ e he => ?_, fun z => Bool.noConfusion z⟩⟩⟩⟩
      exact ⟨_, set_one hl, rfl, rfl, dd, _, v, rfl, hd, rfl, _, set_one hl, rfl, rfl, dd, _, u, rfl, hd, rfl, (by show 2 ≤ sizeLine; decide), fun p1 h1 => ⟨(by show 2 ≤ sizeLine; decide), fun p2 h2 => k p1 p2 h1 h2⟩⟩
/-- what is known of _law_met and the errors -/
structure Met (K : PySem.W.Frag) (mg : Str → Option Value) (CB CW CS CN : Addr) : Prop where
  ex : ∃ (g : Addr) (fd : FuncData), mg "_law_met" = some (.ref g) ∧ Fun K "_law_met" "_law_met" sMet g fd
  er : ErrM K mg CB CW CS CN
theorem pe_met {X : Cx} {T : List (Addr × Str)} {CB CW CS CN c P : Addr} {k : Nat} {params : Arguments} {body : Expr} {scope : Scope} {t : XK → TE} {p lpos pos : Pos} (M : Met X.K X.mg CB CW CS CN) (hg : Gl X "_law_met")
    (TB : LamX.TabB X.base X.mg c P) (hcode : X.env.code = .ref c) (hmT : (P, X.env.qual ++ "<lambda>") ∈ T) (hu : ∀ p ∈ T, p.1 = P → p.2 = X.env.qual ++ "<lambda>") (hr : Room (k + 2) X.A) (L : LamX.LamS X.env.scope scope) (hdef : defaultsOf params X.env = ([], []))
    (hbind : ∀ (q : Str) (cl : List (Str × Addr)) (pm cv ctv : Value), bindArgs (PySem.W.kla_fn "<lambda>" q params body scope cl pm cv ctv) ⟨[], []⟩ = pure [])
    (hbody : ∀ (A : Around) (outer : List Env) (s : Shared) (H : Hp) (E : XK) (f c' : Addr), Room k (A.deeper (LamX.lamEnv X scope s.heap.objs.size f c')) → PE (LamX.lamCx X A outer s H E scope f c') body (t E)) :
    PE X (.Call (.Name "_law_met" p) [.Lambda params body scope lpos] [] pos) (LamX.tLam T (TMet CB CW CS CN) t) := by
  obtain ⟨g, fd, hm, F⟩ := M.ex
  have hb := F.binds (ps := ["ask"]) fun _ _ _ _ _ _ us hl => match us, hl with | [_], _ => rfl
  obtain ⟨oc, od, kV, doc, pm, an, cdv, ct, osl, rfl, lk, hcd⟩ := F.ex
  exact LamX.pe_lamcall hg hm F.kp lk hcd hb scMet rfl (.inl rfl) (met_gives M.er) TB hcode hmT hu hr L hdef hbind hbody
end DR

namespace DR
open PySem PySem.Spec PyProof.Rows L2
/-! ### what was met is what is due -/
def FlatR (v : V) : Prop := flatB v = true ∨ ∃ c, v = .ref c
theorem th_flat {K : PySem.W.Frag} {H : Hp} {v : V} {d : PyData} (h : Th K H v d) : FlatR v := by
  cases h with
  | dct _ => exact .inr ⟨_, rfl⟩
  | dat hd => cases hd with
    | non => exact .inl rfl
    | bl b => exact .inl rfl
    | int i => exact .inl rfl
    | str x => exact .inl rfl
    | lst _ _ => exact .inr ⟨_, rfl⟩
    | tup _ _ => exact .inr ⟨_, rfl⟩
/-- a pair within a pair -/
def NoV (H : Hp) (x : V) (z : Str) (v u : V) : Prop := ∃ p q, x = .ref p ∧ H p = some (.tup [.str z, .ref q]) ∧ H q = some (.tup [v, u])
theorem noV_s {H H' : Hp} (e : TupS H H') {x : V} {z : Str} {v u : V} (h : NoV H x z v u) : NoV H' x z v u := by
  obtain ⟨p, q, h1, h2, h3⟩ := h
  exact ⟨p, q, h1, e _ _ h2, e _ _ h3⟩
def rNeNo (K : PySem.W.Frag) : R2 := fun x y H Q => ∃ z v u, NoV H x z v u ∧ NoV H y z v u ∧ FlatR v ∧ FlatR u ∧ Q (.bl false) H
section
variable {X : Cx} {pins : List (Addr × Obj)} {σ : L2.St} {H : Hp} {s : Shared}
theorem flat_run {A : Around} {v : V} {u z : Value} (h : FlatR v) (rv : L2.RelV v u) (rw_ : L2.RelV v z) : SeqAt.EqAt A s u z true := by
  rcases h with hv | ⟨c, rfl⟩
  · exact eqAt_same rv rw_ hv
  · cases (show u = Value.ref c from rv)
    cases (show z = Value.ref c from rw_)
    exact SeqAt.EqAt.same _
theorem two_run (I : Inv X pins σ H s) {A : Around} (hu : A.units + 2 < cLine) {q q' : Addr} {v u : V} (h1 : H q = some (.tup [v, u])) (h2 : H q' = some (.tup [v, u])) (fv : FlatR v) (fu : FlatR u) : SeqAt.EqAt A s (.ref q) (.ref q') true := by
  by_cases e : q = q'
  · subst e
    exact SeqAt.EqAt.same _
  · obtain ⟨us, r1, t1, _⟩ := I.tuple (SqT.of h1)
    obtain ⟨ws, r2, t2, _⟩ := I.tuple (SqT.of h2)
    refine SeqAt.EqAt.of_refs e ?_
    cases r1 with
    | cons a1 r1 => cases r1 with
    | cons a2 r1 => cases r1 with
    | nil => cases r2 with
    | cons b1 r2 => cases r2 with
    | cons b2 r2 => cases r2 with
    | nil =>
    refine SeqAt.RcAt.tuples (e := fun _ => true) t1 t2 (by omega) fun j h1 h2 => ?_
    match j, h1, h2 with
    | 0, _, _ => exact flat_run fv a1 b1
    | 1, _, _ => exact flat_run fu a2 b2
    | j + 2, h1, _ =>
      have z : j + 2 < 2 := h1
      omega
end
theorem op_neNo {X : Cx} {k : Nat} (hr : Room k X.A) : OpR X (compareOp .NotEq) (rNeNo X.K) := by
  intro pins s σ H x y v u Q I rx ry h
  obtain ⟨z, a, b, ⟨p, q, rfl, h1, h2⟩, ⟨p', q', rfl, h3, h4⟩, fa, fb, qq⟩ := h
  cases (show v = Value.ref p from rx)
  cases (show u = Value.ref p' from ry)
  obtain ⟨us, r1, t1, _⟩ := I.tuple (SqT.of h1)
  obtain ⟨ws, r2, t2, _⟩ := I.tuple (SqT.of h3)
  have hu := hr.units
  cases r1 with
  | cons a1 r1 => cases r1 with
  | cons a2 r1 => cases r1 with
  | nil => cases r2 with
  | cons b1 r2 => cases r2 with
  | cons b2 r2 => cases r2 with
  | nil =>
  cases a2
  cases b2
  have k := SeqAt.RcNeAt.tuples (A := X.A) (e := fun _ => true) t1 t2 (by omega) fun j h1' h2' => by
    match j, h1', h2' with
    | 0, _, _ => exact eqAt_same a1 b1 rfl
    | 1, _, _ => exact two_run I (A := X.A.in1) (by show X.A.units + 1 + 2 < cLine; omega) h2 h4 fa fb
    | j + 2, h1', _ =>
      have z : j + 2 < 2 := h1'
      omega
  exact k X.prog X.w _ _ ⟨.bl false, H, I, rfl, qq⟩
end DR

namespace DR
open PySem PySem.Spec PyProof.Rows L2
/-! ### _law_told_right -/
/-- a def whose code object is known to stand at c -/
structure FunM (K : PySem.W.Frag) (x q : Str) (st : Stmt) (c f : Addr) (fd : FuncData) : Prop where
  ex : ∃ (oc : Value) (od : Option Addr) (kV doc pm : Value) (an : Option Addr) (ct : Value) (osl : Array (Option Value)),
    fd = PySem.W.fnOf x q (defArgs st) (defBody st) (defScope st) .none kV doc pm an (.ref c) ct ∧ K.lookup f = some ⟨oc, od, .func fd, osl⟩ ∧ PySem.W.codeIn K (.ref c) q = true
  kp : PySem.W.keepIn K (.ref f) = true
theorem FunM.fn {K : PySem.W.Frag} {x q : Str} {st : Stmt} {c f : Addr} {fd : FuncData} (F : FunM K x q st c f fd) : Fun K x q st f fd := by
  obtain ⟨oc, od, kV, doc, pm, an, ct, osl, e, lk, hc⟩ := F.ex
  exact ⟨⟨oc, od, kV, doc, pm, an, _, ct, osl, e, lk, hc⟩, F.kp⟩
theorem FunM.okC {CX : CXT} {P : Program} {w : World} {K : PySem.W.Frag} {mg : Str → Option Value} {base : Heap} {x q : Str} {st : Stmt} {c f : Addr} {fd : FuncData} {N ps : List Str} {k : Nat} {sp : Sp} (F : FunM K x q st c f fd) (S : FnScope N ps (defScope st)) (len : ∀ vs H Q E, sp vs H Q E → vs.length = ps.length)
    (hbody : ∀ (A : Around) (outer : List Env) (s : Shared) (H : Hp) (vs : List V) (Q : VK) (E : XK), Room k (A.deeper (envOfC q (defScope st) s.heap.objs.size f (.ref c))) → sp vs H Q E →
      ∃ t, PSs (cxOf CX P w K mg base N q (defScope st) f (.ref c) A outer s H E) (defBody st) t ∧ t { nx := fun _ H' => Q .non H', rt := Q } (start N vs) H) : FnOk P w K mg base CX (k + 1) f fd ps sp := by
  obtain ⟨oc, od, kV, doc, pm, an, ct, osl, rfl, lk, hcd⟩ := F.ex
  exact fn_of lk hcd S len fun A outer s H vs Q E hr hsp => hbody A outer s H vs Q E hr hsp
abbrev rLenV (K : PySem.W.Frag) : List V → Hp → VK → Prop := fun xs H Q => ∃ p ys, xs = [.ref p] ∧ (SqL K H p ys ∨ SqT K H p ys) ∧ Q (.int ys.length) H
theorem cr_lenV {X : Cx} : CallR X (.builtin "len") (rLenV X.K) := call_len_seq
abbrev sTold : Stmt := topS 42
abbrev NTo : List Str := ["image", "pieces", "start", "p", "kind", "words", "k", "q"]
theorem scTold : FnScope NTo ["image", "pieces", "start"] (defScope sTold) := ⟨rfl, rfl, rfl, by decide +kernel, rfl, by decide +kernel, by decide +kernel⟩
abbrev oT (i : Nat) : Stmt := (defBody sTold).getD i (.Pass ⟨0, 0, 0, 0⟩)
def forB : Stmt → List Stmt
  | .For _ _ b _ _ => b
  | _ => []
abbrev oT1 (i : Nat) : Stmt := (forB (oT 1)).getD i (.Pass ⟨0, 0, 0, 0⟩)
abbrev oT1b (i : Nat) : Stmt := (forB (oT1 1)).getD i (.Pass ⟨0, 0, 0, 0⟩)
abbrev oT3 (i : Nat) : Stmt := (forB (oT 3)).getD i (.Pass ⟨0, 0, 0, 0⟩)
abbrev qTold : Str := (envOfC "_law_told_right" (defScope sTold) 0 0 .none).qual ++ "<lambda>"
abbrev XTo (P : Program) (w : World) (K : PySem.W.Frag) (mg : Str → Option Value) (base : Heap) (f c : Addr) (A : Around) (outer : List Env) (s : Shared) (H : Hp) (E : XK) : Cx := cxOf CX0 P w K mg base NTo "_law_told_right" (defScope sTold) f (.ref c) A outer s H E
/-- what _law_told_right calls -/
structure TT (P : Program) (w : World) (K : PySem.W.Frag) (mg : Str → Option Value) (base : Heap) (C CB CW CS CN : Addr) : Prop where
  bi : Bi mg
  sum : mg "sum" = none
  imc : ImC K C
  pieces : HasM P w K mg base CX0 1 C "pieces" ["self"] (spPieces K C)
  len : ∃ (fl : Addr) (fdl : FuncData), PySem.W.findIn K (.ref C) "__len__" = some (some (.ref fl)) ∧ PySem.W.isFn K (.ref fl) = true ∧ Binds K fdl ["self"] [] ∧ FnOk P w K mg base CX0 1 fl fdl ["self"] (spLen C)
  word : HasM P w K mg base (L2.CX P w) 6 C "word" ["self", "p", "k"] (spWordM K C CN)
  met : Met K mg CB CW CS CN
/-- what stands while it runs -/
structure Ft (K : PySem.W.Frag) (T' : List (Addr × Str)) (C x L s0 : Addr) (xs : List V) (qs : List Pk) (a0 : Str × Int) (H : Hp) : Prop where
  tabs : LamX.Tabs T' H
  img : ImgG H C x qs a0
  lst : H L = some (.lst xs)
  each : PySem.W.EachIs (PieceG H) xs qs
  st : H s0 = some (.tup [.str a0.1, .int a0.2])
theorem ext_tup {H H' : Hp} (e : LamX.ExtN H H') : TupS H H' := fun b xs h => e _ _ h (by intro x z; cases z)
theorem imgG_ext {H H' : Hp} (e : LamX.ExtN H H') {C x : Addr} {qs : List Pk} {a0 : Str × Int} (h : ImgG H C x qs a0) : ImgG H' C x qs a0 := by
  obtain ⟨ok, dx, p, d, r, xs, ks, h1, h2, h3, h4, h5, h6⟩ := h
  exact ⟨ok, dx, p, d, r, xs, ks, e _ _ h1 (by intro x z; cases z), e _ _ h2 (by intro x z; cases z), eachs_imp (fun _ _ => pieceG_s (ext_tup e)) h3, e _ _ h4 (by intro x z; cases z), eachs_imp (fun _ _ => adrV_s (ext_tup e)) h5, e _ _ h6 (by intro x z; cases z)⟩
theorem Ft.ext {K : PySem.W.Frag} {T' : List (Addr × Str)} {C x L s0 : Addr} {xs : List V} {qs : List Pk} {a0 : Str × Int} {H H' : Hp} (h : Ft K T' C x L s0 xs qs a0 H) (e : LamX.ExtN H H') (t : LamX.Tabs T' H') : Ft K T' C x L s0 xs qs a0 H' :=
  ⟨t, imgG_ext e h.img, e _ _ h.lst (by intro x z; cases z), eachs_imp (fun _ _ => pieceG_s (ext_tup e)) h.each, e _ _ h.st (by intro x z; cases z)⟩
theorem Ft.same {K : PySem.W.Frag} {T' : List (Addr × Str)} {C x L s0 : Addr} {xs : List V} {qs : List Pk} {a0 : Str × Int} {H H' : Hp} (h : Ft K T' C x L s0 xs qs a0 H) (e : Same H H') : Ft K T' C x L s0 xs qs a0 H' := h.ext (.of e) (h.tabs.ext e)
abbrev sgT (x L s0 : Addr) (o3 o4 o5 o6 o7 : Option V) : L2.St := [some (.ref x), some (.ref L), some (.ref s0), o3, o4, o5, o6, o7]
theorem adrs_sum (qs : List Pk) : (((adrs qs).length : Nat) : Int) = (qs.map fun q => (q.2.2.length : Int)).sum := by
  induction qs with
  | nil => rfl
  | cons q qs ih =>
    have e : adrs (q :: qs) = adrsP q ++ adrs qs := by simp [adrs]
    rw [e, List.length_append, adrsP_len, List.map_cons, List.sum_cons, ← ih]
    omega
theorem find_uniq {α β : Type} [DecidableEq β] {f : α → β} : ∀ {l : List α}, l.Pairwise (fun a b => f a ≠ f b) → ∀ {a : α}, a ∈ l → l.find? (fun x => decide (f x = f a)) = some a
  | [], _, a, h => by cases h
  | b :: l, pw, a, h => by
    rw [List.pairwise_cons] at pw
    rcases List.mem_cons.mp h with rfl | h
    · rw [List.find?_cons_of_pos (by simp)]
    · rw [List.find?_cons_of_neg (by simp [pw.1 a h]), find_uniq pw.2 h]
theorem word_at_mem {qs : List Pk} (ok : PkOk qs) {q : Pk} (hq : q ∈ qs) {j : Nat} {w : Int × Mul} (hw : q.2.2[j]? = some w) (nm : isNmS q.1 = true) : wordAt qs (.str q.1) (.int (j : Nat)) = some w := by
  have e : adrOf (.str q.1) (.int (j : Nat)) = some (q.1, (j : Int)) := by
    show (if isNmS q.1 = true then _ else _) = _
    rw [if_pos nm]
  unfold wordAt
  rw [e]
  show wordOf qs (keyA (q.1, (j : Int))) = _
  have hm : (q.1, j, w) ∈ adrs qs := List.mem_flatMap.mpr ⟨q, hq, List.mem_of_getElem? (adrsP_at hw)⟩
  have := find_uniq (adrs_nodup ok.nod) hm
  unfold wordOf
  have ek : keyA (q.1, (j : Int)) = adrK (q.1, j, w) := rfl
  rw [ek, this]
  rfl
theorem word_no_int {qs : List Pk} {z : Str} {n : Int} (h : ∀ a ∈ adrs qs, a.1 = z → ((a.2.1 : Nat) : Int) ≠ n) : wordAt qs (.str z) (.int n) = none := by
  unfold wordAt
  cases e : adrOf (.str z) (.int n) with
  | none => rfl
  | some a0 =>
    have e : (if isNmS z = true then some (z, n) else none) = some a0 := e
    split at e
    · obtain rfl := Option.some.inj e
      show wordOf qs (keyA (z, n)) = none
      unfold wordOf
      rw [List.find?_eq_none.mpr]
      · rfl
      · intro a ha c
        have c := of_decide_eq_true c
        have c0 := congrArg (fun z : List Key => z[0]?) c
        have c1 := congrArg (fun z : List Key => z[1]?) c
        have c0 : a.1 = z := by simpa [adrK, keyA] using c0
        have c1 : ((a.2.1 : Nat) : Int) = n := by simpa [adrK, keyA] using c1
        exact h a ha c0 c1
    · cases e
theorem adr_in {qs : List Pk} (nod : (qs.map (·.1)).Nodup) {q : Pk} (hq : q ∈ qs) {a : Adr} (ha : a ∈ adrs qs) (e : a.1 = q.1) : a.2.1 < q.2.2.length := by
  obtain ⟨q', hq', ha'⟩ := List.mem_flatMap.mp ha
  have e1 := adrsP_nm ha'
  have : q' = q := by
    have h1 : q'.1 = q.1 := e1.symm.trans e
    have pw := List.pairwise_map.mp nod
    by_cases c : q' = q
    · exact c
    · rcases List.mem_iff_getElem.mp hq' with ⟨i, hi, rfl⟩
      rcases List.mem_iff_getElem.mp hq with ⟨j, hj, rfl⟩
      rcases Nat.lt_trichotomy i j with lt | rfl | lt
      · exact absurd h1 (List.pairwise_iff_getElem.mp pw i j hi hj lt)
      · exact absurd rfl c
      · exact absurd h1.symm (List.pairwise_iff_getElem.mp pw j i hj hi lt)
  subst this
  obtain ⟨i, hi, e2⟩ := List.mem_iff_getElem.mp ha'
  rw [adrsP_len] at hi
  have e3 := adrsP_at (q := q') (List.getElem?_eq_getElem hi)
  rw [List.getElem?_eq_getElem (by rw [adrsP_len]; exact hi), e2] at e3
  rw [Option.some.inj e3]
  exact hi
theorem th_ext {K : PySem.W.Frag} {H H' : Hp} (e : LamX.ExtN H H') {v : V} {d : PyData} (h : Th K H v d) : Th K H' v d := by
  have sl : ∀ {a : Addr} {xs : List V}, SqL K H a xs → SqL K H' a xs := fun h => h.imp (fun h => h.imp (fun h => e _ _ h (by intro x z; cases z)) (fun ⟨o, h⟩ => ⟨o, e _ _ h (by intro x z; cases z)⟩)) id
  have st : ∀ {a : Addr} {xs : List V}, SqT K H a xs → SqT K H' a xs := fun h => h.imp (fun h => h.imp (fun h => e _ _ h (by intro x z; cases z)) (fun ⟨o, h⟩ => ⟨o, e _ _ h (by intro x z; cases z)⟩)) id
  have go : ∀ (n : Nat) {v : V} {d : PyData}, d.depth ≤ n → Dp K H v d → Dp K H' v d := by
    intro n
    induction n with
    | zero =>
      intro v d hd h
      cases h with
      | non => exact .non
      | bl b => exact .bl b
      | int i => exact .int i
      | str x => exact .str x
      | lst _ _ => simp [PyData.depth] at hd
      | tup _ _ => simp [PyData.depth] at hd
    | succ n ih =>
      have all : ∀ {vs : List V} {ds : List PyData}, PyData.depthAll ds ≤ n → DpAll K H vs ds → DpAll K H' vs ds := by
        intro vs
        induction vs with
        | nil => intro ds _ h; cases h; exact .nil
        | cons v vs iht =>
          intro ds hd h
          cases h with
          | cons h t =>
            rw [PyData.depthAll] at hd
            exact .cons (ih (Nat.le_trans (Nat.le_max_left _ _) hd) h) (iht (Nat.le_trans (Nat.le_max_right _ _) hd) t)
      intro v d hd h
      cases h with
      | non => exact .non
      | bl b => exact .bl b
      | int i => exact .int i
      | str x => exact .str x
      | lst s a => exact .lst (sl s) (all (by simp only [PyData.depth] at hd; omega) a)
      | tup s a => exact .tup (st s) (all (by simp only [PyData.depth] at hd; omega) a)
  cases h with
  | dct h => exact .dct (e _ _ h (by intro x z; cases z))
  | dat h => exact .dat (go _ (Nat.le_refl _) h)
theorem no_go {K : PySem.W.Frag} {C CB CW CS CN x M s0 : Addr} {T' : List (Addr × Str)} {xs : List V} {qs : List Pk} {a0 : Str × Int} {H : Hp} {σ : L2.St} {i j : Nat} {v1 v2 : V} {d1 d2 : PyData} {Q : VK} (h : Ft K T' C x M s0 xs qs a0 H) (h1 : Th K H v1 d1) (h2 : Th K H v2 d2) (sh : shortS d1) (no : wordAt qs d1 d2 = none)
    (e0 : σ[0]? = some (some (.ref x))) (ei : σ[i]? = some (some v1)) (ej : σ[j]? = some (some v2))
    (q : ∀ H' y, Ft K T' C x M s0 xs qs a0 H' → LamX.ExtN H H' → NoV H' y "no" v1 v2 → Q y H') : LamX.tLam T' (TMet CB CW CS CN) (fun E => tMeth C "word" (spWordM K C CN) [] E (tVar 0) (tCons (tVar i) (tCons (tVar j) tNil))) σ H Q := by
  refine ⟨h.tabs, fun H1 e1 t1 => ?_⟩
  have h' := h.ext e1 t1
  obtain ⟨ok, dx, p, d, r, ys, ks, hx, _⟩ := id h'.img
  refine ⟨_, e0, x, dx, _, rfl, hx, rfl, _, ei, _, ej, x, qs, a0, v1, v2, d1, d2, rfl, h'.img, th_ext e1 h1, th_ext e1 h2, sh, fun _ H2 dd s2 hdd => ?_, fun w e => by rw [no] at e; cases e⟩
  refine .no upd_same fun p1 p2 n1 n2 => ?_
  have k1 := same_new (o := .xd [("k", v2), ("p", v1)]) hdd
  have k2 := same_new (o := .tup [v1, v2]) n1
  have k3 := same_new (o := .tup [V.str "no", V.ref p1]) n2
  have S := s2.trans (k1.trans (k2.trans k3))
  exact q _ _ (h'.same S) (e1.trans (.of S)) ⟨p2, p1, rfl, upd_same, k3 _ _ upd_same⟩
section
variable {P : Program} {w : World} {K : PySem.W.Frag} {mg : Str → Option Value} {base : Heap} {C CB CW CS CN f c tw : Addr} {T' : List (Addr × Str)} {A : Around} {outer : List Env} {s : Shared} {H0 : Hp} {E : XK}
theorem to0 (L : TT P w K mg base C CB CW CS CN) (hr : Room 12 (XTo P w K mg base f c A outer s H0 E).A) : ∃ t, PS (XTo P w K mg base f c A outer s H0 E) (oT 0) t ∧
    ∀ (D : Ends) (H : Hp) (x M s0 : Addr) (xs : List V) (qs : List Pk) (a0 : Str × Int), Ft K T' C x M s0 xs qs a0 H →
      (∀ H', Ft K T' C x M s0 xs qs a0 H' → LamX.ExtN H H' → D.nx (sgT x M s0 none none none none none) H') → t D (sgT x M s0 none none none none none) H := by
  obtain ⟨fl, fdl, l1, l2, bl, Fl⟩ := L.len
  refine ⟨_, (ps_if (PW.pt (pw_or (pt_cmpR (op_neP hr) (pe_methH0 L.pieces (pv 0) (hr.mono (by decide)) pass0) (pv 1) (nomark _)) (pw_or (pt_cmpR (op_neP hr) (pe_fld (pv 0) rfl) (pv 2) (nomark _)) (pw_or1 (pt_cmpR op_ne (pe_callB (call_lenA Fl l1 l2 bl pass0 (hr.mono (by decide))) (by rfl) L.bi.len (by decide +kernel) (pa_cons (pv 0) pa_nil)) (pe_callB (cr_sum rfl) (by rfl) L.sum (by decide +kernel) (pa_cons (pe_lc (own := [("p", 3), ("kind", 4), ("words", 5)]) (g := gTup K 3 (gCons (gName 3) (gCons (gName 4) (gCons (gName 5) gNil)))) (tt := tYes) (te := tCB (rLenV K) (tCons (tVar 5) tNil)) rfl scTold.nd (pi_list (pv 1)) (blkOk_by (N := NTo) (sc := defScope sTold) (by decide +kernel)) (fun _ _ _ _ _ => (pg_tup rfl (pgs_cons (pg_name (i := 3) scTold.nd rfl (by first | exact .inl rfl | exact .inr rfl)) (pgs_cons (pg_name (i := 4) scTold.nd rfl (by first | exact .inl rfl | exact .inr rfl)) (pgs_cons (pg_name (i := 5) scTold.nd rfl (by first | exact .inl rfl | exact .inr rfl)) pgs_nil))))) (fun _ _ _ _ _ => pts_nil) (fun _ _ _ _ _ => (pe_callB cr_lenV (by rfl) L.bi.len (by decide +kernel) (pa_cons (pv 5) pa_nil)))) pa_nil)) (nomark _)))))) (pss_one (ps_ret pe_bl)) pss_nil), ?_⟩
  intro D H x M s0 xs qs a0 h q
  obtain ⟨ok, dx, p, d, r, ys, ks, hx, hp, hys, hd, hks, hr0⟩ := id h.img
  have nmq : NmQ qs := ok.nm
  obtain ⟨pp, pd⟩ := pk_plain nmq
  have pl : (PyData.list (qs.map pkD)).plain = true := by simpa [PyData.plain] using pp
  refine ⟨_, rfl, x, dx, _, rfl, hx, rfl, x, qs, a0, rfl, h.img, fun d1 zs H1 s1 hd0 hd1 hzs => ?_⟩
  have h1 := h.same s1
  refine ⟨_, rfl, .list (qs.map pkD), .list (qs.map pkD), .lst (SqL.of hd1) (pieces_dp hzs), .lst (SqL.of h1.lst) (pieces_dp h1.each), pl, pl, by simp only [PyData.depth]; omega, _, rfl, ?_⟩
  rw [SeqAt.eqv_refl_plain _ pl]
  have hx1 := s1 _ _ hx
  refine iteF ⟨_, rfl, x, C, dx, _, _, rfl, hx1, L.imc.cl, L.imc.n3, rfl, _, rfl, adD a0, adD a0, .tup (SqT.of (s1 _ _ hr0)) (.cons (.str _) (.cons (.int _) .nil)), .tup (SqT.of h1.st) (.cons (.str _) (.cons (.int _) .nil)), rfl, rfl, by simp [adD, PyData.depth, PyData.depthAll], _, rfl, ?_⟩
  rw [SeqAt.eqv_refl_plain (adD a0) rfl]
  have fewA : (adrs qs).length ≤ 100 := by
    have := adrs_le (n := 10) qs ok.wd
    have := ok.few
    omega
  have lx : xs.length = qs.length := h.each.length
  refine iteF ⟨_, rfl, x, dx, _, rfl, hx1, x, qs, a0, rfl, h1.img, _, rfl, by omega, ?_⟩
  refine ⟨_, rfl, M, rfl, ⟨_, SqL.of h1.lst⟩, fun F hF => ?_⟩
  refine lc_it (walk_list (xs := xs)) (fun i Hj => (∀ b o, b ≠ F → H1 b = some o → Hj b = some o) ∧ Hj F = some (.lst (((qs.take i).map fun q => (q.2.2.length : Int)).map V.int)))
    ⟨fun b o hb e => by rw [upd_ne hb]; exact e, upd_same⟩ (fun i Hj _ ⟨kp, _⟩ => SqL.of (kp _ _ (ne_of_none h1.lst hF) h1.lst)) ?_ ?_
  · rintro i u Hj Hj' hi ⟨kp, hFj⟩ ⟨rfl, hu⟩
    have sj : Same H1 Hj' := fun b o e => kp b o (ne_of_none e hF) e
    obtain ⟨q1, hq1, hpc⟩ := eachs_get h1.each hu
    obtain ⟨t, b, ws, rfl, ht, hb, hws⟩ := pieceG_s (TupS.of sj) hpc
    have lw : ws.length = q1.2.2.length := hws.length
    have i2 : i < qs.length := (List.getElem?_eq_some_iff.mp hq1).1
    have few := ok.few
    refine ⟨t, _, rfl, SqT.of ht, rfl, _, _, rfl, _, _, rfl, _, _, rfl, rfl, rfl, yes_go (iteT ⟨_, rfl, b, ws, rfl, .inr (SqT.of hb), _, hFj, small1000 (by rw [List.length_map, List.length_map, List.length_take]; omega), fun b' o hb' e => by rw [upd_ne hb']; exact kp b' o hb' e, ?_⟩)⟩
    rw [upd_same, List.take_add_one, hq1, lw]
    simp
  · rintro Hj ⟨kp, hFj⟩
    rw [lx, List.take_length] at hFj
    have sj : Same H1 Hj := fun b o e => kp b o (ne_of_none e hF) e
    refine ⟨F, _, rfl, SqL.of hFj, rfl, _, rfl, ?_⟩
    rw [← adrs_sum]
    rw [show (!decide (V.int ((adrs qs).length : Nat) = V.int ((adrs qs).length : Nat))) = false from by simp]
    exact iteF (q Hj (h1.same sj) (.of (s1.trans sj)))
theorem to1a (L : TT P w K mg base C CB CW CS CN) (hr : Room 12 (XTo P w K mg base f c A outer s H0 E).A) : ∃ t, PS (XTo P w K mg base f c A outer s H0 E) (oT1 0) t ∧
    ∀ (D : Ends) (H : Hp) (x M s0 b : Addr) (xs : List V) (qs : List Pk) (a0 : Str × Int) (q1 : Pk) (ws : List V) (o6 o7 : Option V), Ft K T' C x M s0 xs qs a0 H → q1 ∈ qs → NmOk q1.1 → H b = some (.tup ws) → PySem.W.EachIs (SumP H) ws q1.2.2 →
      (∀ H', Same H H' → D.nx (sgT x M s0 (some (.str q1.1)) (some (.str q1.2.1)) (some (.ref b)) o6 o7) H') → t D (sgT x M s0 (some (.str q1.1)) (some (.str q1.2.1)) (some (.ref b)) o6 o7) H := by
  refine ⟨_, (ps_if (pt_cmpR (op_neP hr) (pe_lc (own := [("k", 6)]) (g := gName 6) (tt := tYes) (te := tMeth C "word" (spWordM K C CN) [] E0 (tVar 0) (tCons (tVar 3) (tCons (tVar 6) tNil))) rfl scTold.nd (pi_range1 (by rfl) L.bi.range (pa_cons (pe_callB cr_lenV (by rfl) L.bi.len (by decide +kernel) (pa_cons (pv 5) pa_nil)) pa_nil)) (blkOk_by (N := NTo) (sc := defScope sTold) (by decide +kernel)) (fun _ _ _ _ _ => pg_name (i := 6) scTold.nd rfl (by first | exact .inl rfl | exact .inr rfl)) (fun _ _ _ _ _ => pts_nil) (fun _ _ _ _ _ => (pe_methH L.word (pv 0) (hr.mono (by decide)) passN (pa_cons (pv 3) (pa_cons (pv 6) pa_nil))))) (pe_callTy call_list_of (by rfl) L.bi.list (by decide +kernel) (pa_cons (pv 5) pa_nil)) (nomark _)) (pss_one (ps_ret pe_bl)) pss_nil), ?_⟩
  intro D H x M s0 b xs qs a0 q1 ws o6 o7 h hq nm hb hws q
  have lw : ws.length = q1.2.2.length := hws.length
  have few := h.img.1.wd q1 hq
  have nmw := h.img.1.nm q1 hq
  refine ⟨_, rfl, b, ws, rfl, .inr (SqT.of hb), _, rfl, by omega, by omega, fun F hF => ?_⟩
  refine lc_range (lo := 0) (n := ws.length) (fun j Hj => (∀ c o, c ≠ F → H c = some o → Hj c = some o) ∧ ∃ us, Hj F = some (.lst us) ∧ us.length = j ∧ PySem.W.EachIs (SumP Hj) us (q1.2.2.take j))
    ⟨fun c o hc e => by rw [upd_ne hc]; exact e, [], upd_same, rfl, .nil⟩ ?_ ?_
  · rintro j Hj hj ⟨kp, us, hFj, hlu, hus⟩
    have sj : Same H Hj := fun c o e => kp c o (ne_of_none e hF) e
    have hj2 : j < q1.2.2.length := by omega
    have hw := List.getElem?_eq_getElem hj2
    have hj3 := h.same sj
    obtain ⟨ok, dx, p, d, r, ys, ks, hx, _⟩ := id hj3.img
    have wa := word_at_mem ok hq hw nm.nm
    refine ⟨rfl, yes_go (iteT ⟨_, rfl, x, dx, _, rfl, hx, rfl, _, rfl, _, rfl, x, qs, a0, _, _, .str q1.1, .int (0 + (j : Int)), rfl, hj3.img, .dat (.str _), .dat (.int _), nm.sh, fun e => ?_, fun w e v' H6 s6 hv' => ?_⟩)⟩
    · rw [show (0 : Int) + (j : Int) = ((j : Nat) : Int) by omega, wa] at e
      cases e
    · rw [show (0 : Int) + (j : Int) = ((j : Nat) : Int) by omega, wa] at e
      obtain rfl := Option.some.inj e
      have hF6 := s6 _ _ hFj
      have ts := TupS.put (o' := .lst (us ++ [v'])) hF6 (by intro xs z; cases z)
      refine ⟨us, hF6, small1000 (by omega), fun c o hc e => by rw [upd_ne hc]; exact s6 _ _ (kp c o hc e), us ++ [v'], upd_same, by simp [hlu], ?_⟩
      rw [List.take_add_one, hw]
      exact eachs_snoc (R := SumP _) (sumT_s ts hv') (eachs_imp (fun _ _ => sumT_s ((TupS.of s6).trans ts)) hus)
  · rintro Hj ⟨kp, us, hFj, hlu, hus⟩
    rw [lw, List.take_length] at hus
    have sj : Same H Hj := fun c o e => kp c o (ne_of_none e hF) e
    have pl : (PyData.list (q1.2.2.map fun w => sumD w.1 w.2)).plain = true := by simpa [PyData.plain] using sums_plain nmw
    have dp := sums_depth nmw
    refine ⟨_, rfl, b, ws, rfl, .inr (SqT.of (sj _ _ hb)), fun l hl => ?_⟩
    have sl := same_new (o := .lst ws) hl
    refine ⟨.list (q1.2.2.map fun w => sumD w.1 w.2), .list (q1.2.2.map fun w => sumD w.1 w.2), .lst (SqL.of (sl _ _ hFj)) (sums_dp (eachs_imp (fun _ _ => sumT_s (TupS.of sl)) hus)), .lst (SqL.of upd_same) (sums_dp (eachs_imp (fun _ _ => sumT_s (TupS.of (sj.trans sl))) hws)), pl, pl, by simp only [PyData.depth]; omega, _, rfl, ?_⟩
    rw [SeqAt.eqv_refl_plain _ pl]
    exact iteF (q _ (sj.trans sl))
end
end DR

namespace DR
open PySem PySem.Spec PyProof.Rows L2
section
variable {P : Program} {w : World} {K : PySem.W.Frag} {mg : Str → Option Value} {base : Heap} {C CB CW CS CN f c tw : Addr} {T' : List (Addr × Str)} {A : Around} {outer : List Env} {s : Shared} {H0 : Hp} {E : XK}
theorem to1b (L : TT P w K mg base C CB CW CS CN) (TB : LamX.TabB base mg c tw) (hmT : (tw, qTold) ∈ T') (hu : ∀ p ∈ T', p.1 = tw → p.2 = qTold) (hr : Room 12 (XTo P w K mg base f c A outer s H0 E).A) : ∃ t, PS (XTo P w K mg base f c A outer s H0 E) (oT1b 0) t ∧
    ∀ (D : Ends) (H : Hp) (x M s0 : Addr) (xs : List V) (qs : List Pk) (a0 : Str × Int) (v1 v2 : V) (d1 d2 : PyData) (o4 o5 o7 : Option V), Ft K T' C x M s0 xs qs a0 H → Th K H v1 d1 → Th K H v2 d2 → shortS d1 → wordAt qs d1 d2 = none →
      (∀ H', Ft K T' C x M s0 xs qs a0 H' → LamX.ExtN H H' → D.nx (sgT x M s0 (some v1) o4 o5 (some v2) o7) H') → t D (sgT x M s0 (some v1) o4 o5 (some v2) o7) H := by
  refine ⟨_, (ps_if (pt_cmpR (op_neNo hr) (pe_met (k := 8) (t := fun E => tMeth C "word" (spWordM K C CN) [] E (tVar 0) (tCons (tVar 3) (tCons (tVar 6) tNil))) L.met (by rfl) TB rfl hmT hu (hr.mono (by decide)) (LamX.lamS_by (show LamX.lamSB (defScope sTold) _ = true by decide +kernel)) rfl (fun _ _ _ _ _ => rfl) fun A outer s H E f c' hr => (pe_methH L.word (pv 0) (hr.mono (by decide)) (passes_call (W := fun cls d _ H => E cls d H) (takes_of rfl rfl rfl rfl) (fun _ _ _ _ h => h)) (pa_cons (pv 3) (pa_cons (pv 6) pa_nil)))) (pe_tup (pa_cons pe_str (pa_cons (pe_tup (pa_cons (pv 3) (pa_cons (pv 6) pa_nil))) pa_nil))) (nomark _)) (pss_one (ps_ret pe_bl)) pss_nil), ?_⟩
  intro D H x M s0 xs qs a0 v1 v2 d1 d2 o4 o5 o7 h h1 h2 sh no q
  refine no_go (i := 3) (j := 6) h h1 h2 sh no rfl rfl rfl fun H1 y h1' e1 hy => ?_
  refine ⟨_, rfl, _, rfl, (by show 2 ≤ sizeLine; decide), fun t1 n1 => ?_⟩
  have k1 := same_new (o := .tup [v1, v2]) n1
  have g1 : upd H1 t1 (.tup [v1, v2]) t1 = some (.tup [v1, v2]) := upd_same
  generalize upd H1 t1 (.tup [v1, v2]) = H2 at k1 g1 ⊢
  refine ⟨(by show 2 ≤ sizeLine; decide), fun t2 n2 => ?_⟩
  have k2 := same_new (o := .tup [V.str "no", V.ref t1]) n2
  have S := k1.trans k2
  exact ⟨"no", v1, v2, noV_s (TupS.of S) hy, ⟨t2, t1, rfl, upd_same, k2 _ _ g1⟩, th_flat h1, th_flat h2, _, rfl, iteF (q _ (h1'.same S) (e1.trans (.of S)))⟩
theorem to3 (L : TT P w K mg base C CB CW CS CN) (TB : LamX.TabB base mg c tw) (hmT : (tw, qTold) ∈ T') (hu : ∀ p ∈ T', p.1 = tw → p.2 = qTold) (hr : Room 12 (XTo P w K mg base f c A outer s H0 E).A) : ∃ t, PS (XTo P w K mg base f c A outer s H0 E) (oT3 0) t ∧
    ∀ (D : Ends) (H : Hp) (x M s0 : Addr) (xs : List V) (qs : List Pk) (a0 : Str × Int) (v1 v2 : V) (d1 d2 : PyData) (o3 o4 o5 : Option V), Ft K T' C x M s0 xs qs a0 H → Th K H v1 d1 → Th K H v2 d2 → shortS d1 → wordAt qs d1 d2 = none →
      (∀ H', Ft K T' C x M s0 xs qs a0 H' → LamX.ExtN H H' → D.nx (sgT x M s0 o3 o4 o5 (some v2) (some v1)) H') → t D (sgT x M s0 o3 o4 o5 (some v2) (some v1)) H := by
  refine ⟨_, (ps_if (pt_cmpR (op_neNo hr) (pe_met (k := 8) (t := fun E => tMeth C "word" (spWordM K C CN) [] E (tVar 0) (tCons (tVar 7) (tCons (tVar 6) tNil))) L.met (by rfl) TB rfl hmT hu (hr.mono (by decide)) (LamX.lamS_by (show LamX.lamSB (defScope sTold) _ = true by decide +kernel)) rfl (fun _ _ _ _ _ => rfl) fun A outer s H E f c' hr => (pe_methH L.word (pv 0) (hr.mono (by decide)) (passes_call (W := fun cls d _ H => E cls d H) (takes_of rfl rfl rfl rfl) (fun _ _ _ _ h => h)) (pa_cons (pv 7) (pa_cons (pv 6) pa_nil)))) (pe_tup (pa_cons pe_str (pa_cons (pe_tup (pa_cons (pv 7) (pa_cons (pv 6) pa_nil))) pa_nil))) (nomark _)) (pss_one (ps_ret pe_bl)) pss_nil), ?_⟩
  intro D H x M s0 xs qs a0 v1 v2 d1 d2 o3 o4 o5 h h1 h2 sh no q
  refine no_go (i := 7) (j := 6) h h1 h2 sh no rfl rfl rfl fun H1 y h1' e1 hy => ?_
  refine ⟨_, rfl, _, rfl, (by show 2 ≤ sizeLine; decide), fun t1 n1 => ?_⟩
  have k1 := same_new (o := .tup [v1, v2]) n1
  have g1 : upd H1 t1 (.tup [v1, v2]) t1 = some (.tup [v1, v2]) := upd_same
  generalize upd H1 t1 (.tup [v1, v2]) = H2 at k1 g1 ⊢
  refine ⟨(by show 2 ≤ sizeLine; decide), fun t2 n2 => ?_⟩
  have k2 := same_new (o := .tup [V.str "no", V.ref t1]) n2
  have S := k1.trans k2
  exact ⟨"no", v1, v2, noV_s (TupS.of S) hy, ⟨t2, t1, rfl, upd_same, k2 _ _ g1⟩, th_flat h1, th_flat h2, _, rfl, iteF (q _ (h1'.same S) (e1.trans (.of S)))⟩
theorem to_walk1 (L : TT P w K mg base C CB CW CS CN) (TB : LamX.TabB base mg c tw) (hmT : (tw, qTold) ∈ T') (hu : ∀ p ∈ T', p.1 = tw → p.2 = qTold) (hr : Room 12 (XTo P w K mg base f c A outer s H0 E).A) : ∃ t, PS (XTo P w K mg base f c A outer s H0 E) (oT1 1) t ∧
    ∀ (D : Ends) (H : Hp) (x M s0 b : Addr) (xs : List V) (qs : List Pk) (a0 : Str × Int) (q1 : Pk) (ws : List V) (o4 o6 o7 : Option V), Ft K T' C x M s0 xs qs a0 H → q1 ∈ qs → NmOk q1.1 → H b = some (.tup ws) → ws.length = q1.2.2.length →
      (∀ H' o6', Ft K T' C x M s0 xs qs a0 H' → LamX.ExtN H H' → D.nx (sgT x M s0 (some (.str q1.1)) o4 (some (.ref b)) o6' o7) H') → t D (sgT x M s0 (some (.str q1.1)) o4 (some (.ref b)) o6 o7) H := by
  obtain ⟨t0, h0, q0⟩ := to1b (E := E) (A := A) (outer := outer) (s := s) (H0 := H0) (f := f) (c := c) L TB hmT hu hr
  refine ⟨_, (ps_for (passes_of rfl) rfl (pi_tup (pe_tup (pa_cons (pe_un un_neg pe_int) (pa_cons (pe_callB cr_lenV (by rfl) L.bi.len (by decide +kernel) (pa_cons (pv 5) pa_nil)) (pa_cons pe_non (pa_cons pe_bl (pa_cons pe_str pa_nil))))))) (pg_name (i := 6) scTold.nd rfl (.inr rfl)) (pss_one h0)), ?_⟩
  intro D H x M s0 b xs qs a0 q1 ws o4 o6 o7 h hq nm hb lw q
  refine ⟨_, rfl, _, rfl, b, ws, rfl, .inr (SqT.of hb), (by show 5 ≤ sizeLine; decide), fun tp ntp => ?_⟩
  have k1 := same_new (o := .tup [V.int (-1), V.int ws.length, V.non, V.bl true, V.str "0"]) ntp
  have g1 : upd H tp (.tup [V.int (-1), V.int ws.length, V.non, V.bl true, V.str "0"]) tp = some (.tup [V.int (-1), V.int ws.length, V.non, V.bl true, V.str "0"]) := upd_same
  have h1 := h.same k1
  generalize upd H tp (.tup [V.int (-1), V.int ws.length, V.non, V.bl true, V.str "0"]) = H1 at k1 g1 h1 ⊢
  have ok := h.img.1
  have each : ∀ v ∈ [V.int (-1), V.int ws.length, V.non, V.bl true, V.str "0"], ∃ d, (∀ G : Hp, Th K G v d) ∧ wordAt qs (.str q1.1) d = none := by
    intro v hv
    rcases List.mem_cons.mp hv with rfl | hv
    · exact ⟨_, fun G => .dat (.int _), word_no_int fun a _ _ => by omega⟩
    rcases List.mem_cons.mp hv with rfl | hv
    · refine ⟨_, fun G => .dat (.int _), word_no_int fun a ha e => ?_⟩
      have := adr_in ok.nod hq ha e
      omega
    rcases List.mem_cons.mp hv with rfl | hv
    · exact ⟨_, fun G => .dat .non, rfl⟩
    rcases List.mem_cons.mp hv with rfl | hv
    · exact ⟨_, fun G => .dat (.bl _), rfl⟩
    rcases List.mem_cons.mp hv with rfl | hv
    · exact ⟨_, fun G => .dat (.str _), rfl⟩
    · cases hv
  refine ⟨tp, rfl, ⟨_, SqT.of g1⟩, ?_⟩
  refine for_it (walk_tup (xs := [V.int (-1), V.int ws.length, V.non, V.bl true, V.str "0"])) (fun i σ Hj => ∃ o6', σ = sgT x M s0 (some (.str q1.1)) o4 (some (.ref b)) o6' o7 ∧ Ft K T' C x M s0 xs qs a0 Hj ∧ LamX.ExtN H1 Hj)
    ⟨o6, rfl, h1, LamX.ExtN.refl _⟩ (fun i σ Hj _ ⟨_, _, _, e⟩ => SqT.of (ext_tup e _ _ g1)) ?_ ?_
  · rintro i y σ Hj Hj' hi ⟨o6', rfl, hj, ej⟩ ⟨rfl, hy⟩
    obtain ⟨d, hd, no⟩ := each y (List.mem_of_getElem? hy)
    exact q0 _ Hj' x M s0 xs qs a0 _ y (.str q1.1) d _ _ _ hj (.dat (.str _)) (hd _) nm.sh no fun H' h' e' => ⟨_, rfl, h', ej.trans e'⟩
  · rintro σ Hj ⟨o6', rfl, hj, ej⟩
    exact q Hj o6' hj ((LamX.ExtN.of k1).trans ej)
theorem to1 (L : TT P w K mg base C CB CW CS CN) (TB : LamX.TabB base mg c tw) (hmT : (tw, qTold) ∈ T') (hu : ∀ p ∈ T', p.1 = tw → p.2 = qTold) (hr : Room 12 (XTo P w K mg base f c A outer s H0 E).A) : ∃ t, PS (XTo P w K mg base f c A outer s H0 E) (oT 1) t ∧
    ∀ (D : Ends) (H : Hp) (x M s0 : Addr) (xs : List V) (qs : List Pk) (a0 : Str × Int), Ft K T' C x M s0 xs qs a0 H → (∀ q ∈ qs, NmOk q.1) →
      (∀ H' o3 o4 o5 o6 o7, Ft K T' C x M s0 xs qs a0 H' → LamX.ExtN H H' → D.nx (sgT x M s0 o3 o4 o5 o6 o7) H') → t D (sgT x M s0 none none none none none) H := by
  obtain ⟨t0, h0, q0⟩ := to1a (E := E) (A := A) (outer := outer) (s := s) (H0 := H0) (f := f) (c := c) (T' := T') L hr
  obtain ⟨t1, h1, q1⟩ := to_walk1 (E := E) (A := A) (outer := outer) (s := s) (H0 := H0) (f := f) (c := c) L TB hmT hu hr
  refine ⟨_, (ps_for (passes_of rfl) rfl (pi_list (pv 1)) (pg_tup rfl (pgs_cons (pg_name (i := 3) scTold.nd rfl (.inr rfl)) (pgs_cons (pg_name (i := 4) scTold.nd rfl (.inl rfl)) (pgs_cons (pg_name (i := 5) scTold.nd rfl (.inl rfl)) pgs_nil)))) (pss_cons h0 (pss_one h1))), ?_⟩
  intro D H x M s0 xs qs a0 h nms q
  have lx : xs.length = qs.length := h.each.length
  refine ⟨_, rfl, M, rfl, ⟨_, SqL.of h.lst⟩, ?_⟩
  refine for_it (walk_list (xs := xs)) (fun i σ Hj => ∃ o3 o4 o5 o6 o7, σ = sgT x M s0 o3 o4 o5 o6 o7 ∧ Ft K T' C x M s0 xs qs a0 Hj ∧ LamX.ExtN H Hj)
    ⟨none, none, none, none, none, rfl, h, LamX.ExtN.refl _⟩ (fun i σ Hj _ ⟨_, _, _, _, _, _, hj, _⟩ => SqL.of hj.lst) ?_ ?_
  · rintro i y σ Hj Hj' hi ⟨o3, o4, o5, o6, o7, rfl, hj, ej⟩ ⟨rfl, hy⟩
    obtain ⟨pc, hpc, hp⟩ := eachs_get hj.each hy
    obtain ⟨t, b, ws, rfl, ht, hb, hws⟩ := hp
    have hm := List.mem_of_getElem? hpc
    refine ⟨t, _, rfl, SqT.of ht, rfl, _, _, rfl, _, _, rfl, _, _, rfl, rfl, ?_⟩
    refine q0 _ Hj' x M s0 b xs qs a0 pc ws _ _ hj hm (nms pc hm) hb hws fun H2 s2 => ?_
    exact q1 _ H2 x M s0 b xs qs a0 pc ws _ _ _ (hj.same s2) hm (nms pc hm) (s2 _ _ hb) hws.length fun H3 o6' h3 e3 => ⟨_, _, _, _, _, rfl, h3, ej.trans ((LamX.ExtN.of s2).trans e3)⟩
  · rintro σ Hj ⟨o3, o4, o5, o6, o7, rfl, hj, ej⟩
    exact q Hj _ _ _ _ _ hj ej
theorem to2 (hr : Room 12 (XTo P w K mg base f c A outer s H0 E).A) : ∃ t, PS (XTo P w K mg base f c A outer s H0 E) (oT 2) t ∧
    ∀ (D : Ends) (H : Hp) (x M s0 : Addr) (xs : List V) (qs : List Pk) (a0 : Str × Int) (q1 : Pk) (o3 o4 o5 o6 o7 : Option V), Ft K T' C x M s0 xs qs a0 H → qs[0]? = some q1 →
      (D.nx (sgT x M s0 (some (.str q1.1)) o4 o5 o6 o7) H) → t D (sgT x M s0 o3 o4 o5 o6 o7) H := by
  refine ⟨_, (ps_set (i := 3) scTold.nd rfl (.inr rfl) (pe_ix ix_tup (pe_ix ix_list (pv 1) pe_int (fun _ _ => rfl)) pe_int (fun _ _ => rfl))), ?_⟩
  intro D H x M s0 xs qs a0 q1 o3 o4 o5 o6 o7 h h0 q
  obtain ⟨y, hy, t, b, ws, rfl, ht, _, _⟩ := eachs_inv h.each h0
  exact ⟨_, rfl, M, _, _, _, rfl, rfl, SqL.of h.lst, at_of hy, t, _, _, _, rfl, rfl, SqT.of ht, at_of (i := 0) rfl, q⟩
theorem to_walk3 (L : TT P w K mg base C CB CW CS CN) (TB : LamX.TabB base mg c tw) (hmT : (tw, qTold) ∈ T') (hu : ∀ p ∈ T', p.1 = tw → p.2 = qTold) (hr : Room 12 (XTo P w K mg base f c A outer s H0 E).A) : ∃ t, PS (XTo P w K mg base f c A outer s H0 E) (oT 3) t ∧
    ∀ (D : Ends) (H : Hp) (x M s0 : Addr) (xs : List V) (qs : List Pk) (a0 : Str × Int) (z : Str) (o4 o5 o6 o7 : Option V), Ft K T' C x M s0 xs qs a0 H → (∀ q ∈ qs, q.1 ∈ nm4) → NmOk z →
      (∀ H' o6' o7', Ft K T' C x M s0 xs qs a0 H' → LamX.ExtN H H' → D.nx (sgT x M s0 (some (.str z)) o4 o5 o6' o7') H') → t D (sgT x M s0 (some (.str z)) o4 o5 o6 o7) H := by
  obtain ⟨t0, h0, q0⟩ := to3 (E := E) (A := A) (outer := outer) (s := s) (H0 := H0) (f := f) (c := c) L TB hmT hu hr
  refine ⟨_, (ps_for (passes_of rfl) rfl (pi_tup (pe_tup (pa_cons (pe_tup (pa_cons pe_str (pa_cons pe_int pa_nil))) (pa_cons (pe_tup (pa_cons pe_non (pa_cons pe_int pa_nil))) (pa_cons (pe_tup (pa_cons (pe_lst pa_nil) (pa_cons pe_int pa_nil))) (pa_cons (pe_tup (pa_cons (pe_tup (pa_cons (pv 3) pa_nil)) (pa_cons pe_int pa_nil))) (pa_cons (pe_tup (pa_cons (pv 3) (pa_cons (pe_lst (pa_cons pe_int pa_nil)) pa_nil))) (pa_cons (pe_tup (pa_cons pe_dnewK (pa_cons pe_non pa_nil))) pa_nil)))))))) (pg_tup rfl (pgs_cons (pg_name (i := 7) scTold.nd rfl (.inr rfl)) (pgs_cons (pg_name (i := 6) scTold.nd rfl (.inr rfl)) pgs_nil))) (pss_one h0)), ?_⟩
  intro D H x M s0 xs qs a0 z o4 o5 o6 o7 h nms nz q
  refine ⟨(by show 2 ≤ sizeLine; decide), fun t1 nt1 => ?_⟩
  have k0 := same_new (o := .tup [V.str "nosuch", V.int 0]) nt1
  have g0 : upd H t1 (.tup [V.str "nosuch", V.int 0]) t1 = some (.tup [V.str "nosuch", V.int 0]) := upd_same
  generalize upd H t1 (.tup [V.str "nosuch", V.int 0]) = J0 at k0 g0 ⊢
  refine ⟨(by show 2 ≤ sizeLine; decide), fun t2 nt2 => ?_⟩
  have k1 := same_new (o := .tup [V.non, V.int 0]) nt2
  have g1 : upd J0 t2 (.tup [V.non, V.int 0]) t2 = some (.tup [V.non, V.int 0]) := upd_same
  generalize upd J0 t2 (.tup [V.non, V.int 0]) = J1 at k1 g1 ⊢
  refine ⟨(by show 0 ≤ sizeLine; decide), fun l3 nl3 => ?_⟩
  have k2 := same_new (o := .lst []) nl3
  have g2 : upd J1 l3 (.lst []) l3 = some (.lst []) := upd_same
  generalize upd J1 l3 (.lst []) = J2 at k2 g2 ⊢
  refine ⟨(by show 2 ≤ sizeLine; decide), fun t3 nt3 => ?_⟩
  have k3 := same_new (o := .tup [V.ref l3, V.int 0]) nt3
  have g3 : upd J2 t3 (.tup [V.ref l3, V.int 0]) t3 = some (.tup [V.ref l3, V.int 0]) := upd_same
  generalize upd J2 t3 (.tup [V.ref l3, V.int 0]) = J3 at k3 g3 ⊢
  refine ⟨_, rfl, (by show 1 ≤ sizeLine; decide), fun u4 nu4 => ?_⟩
  have k4 := same_new (o := .tup [V.str z]) nu4
  have g4 : upd J3 u4 (.tup [V.str z]) u4 = some (.tup [V.str z]) := upd_same
  generalize upd J3 u4 (.tup [V.str z]) = J4 at k4 g4 ⊢
  refine ⟨(by show 2 ≤ sizeLine; decide), fun t4 nt4 => ?_⟩
  have k5 := same_new (o := .tup [V.ref u4, V.int 0]) nt4
  have g5 : upd J4 t4 (.tup [V.ref u4, V.int 0]) t4 = some (.tup [V.ref u4, V.int 0]) := upd_same
  generalize upd J4 t4 (.tup [V.ref u4, V.int 0]) = J5 at k5 g5 ⊢
  refine ⟨_, rfl, (by show 1 ≤ sizeLine; decide), fun l5 nl5 => ?_⟩
  have k6 := same_new (o := .lst [V.int 0]) nl5
  have g6 : upd J5 l5 (.lst [V.int 0]) l5 = some (.lst [V.int 0]) := upd_same
  generalize upd J5 l5 (.lst [V.int 0]) = J6 at k6 g6 ⊢
  refine ⟨(by show 2 ≤ sizeLine; decide), fun t5 nt5 => ?_⟩
  have k7 := same_new (o := .tup [V.str z, V.ref l5]) nt5
  have g7 : upd J6 t5 (.tup [V.str z, V.ref l5]) t5 = some (.tup [V.str z, V.ref l5]) := upd_same
  generalize upd J6 t5 (.tup [V.str z, V.ref l5]) = J7 at k7 g7 ⊢
  refine fun d6 nd6 => ?_
  have k8 := same_new (o := .dK []) nd6
  have g8 : upd J7 d6 (.dK []) d6 = some (.dK []) := upd_same
  generalize upd J7 d6 (.dK []) = J8 at k8 g8 ⊢
  refine ⟨(by show 2 ≤ sizeLine; decide), fun t6 nt6 => ?_⟩
  have k9 := same_new (o := .tup [V.ref d6, V.non]) nt6
  have g9 : upd J8 t6 (.tup [V.ref d6, V.non]) t6 = some (.tup [V.ref d6, V.non]) := upd_same
  generalize upd J8 t6 (.tup [V.ref d6, V.non]) = J9 at k9 g9 ⊢
  refine ⟨(by show 6 ≤ sizeLine; decide), fun tp ntp => ?_⟩
  have k10 := same_new (o := .tup [V.ref t1, V.ref t2, V.ref t3, V.ref t4, V.ref t5, V.ref t6]) ntp
  have g10 : upd J9 tp (.tup [V.ref t1, V.ref t2, V.ref t3, V.ref t4, V.ref t5, V.ref t6]) tp = some (.tup [V.ref t1, V.ref t2, V.ref t3, V.ref t4, V.ref t5, V.ref t6]) := upd_same
  generalize upd J9 tp (.tup [V.ref t1, V.ref t2, V.ref t3, V.ref t4, V.ref t5, V.ref t6]) = J10 at k10 g10 ⊢
  have r10 := k10
  have r9 := k9.trans r10
  have r8 := k8.trans r9
  have r7 := k7.trans r8
  have r6 := k6.trans r7
  have r5 := k5.trans r6
  have r4 := k4.trans r5
  have r3 := k3.trans r4
  have r2 := k2.trans r3
  have r1 := k1.trans r2
  have r0 := k0.trans r1
  have hJ := h.same r0
  have noS : wordAt qs (.str "nosuch") (.int 0) = none := word_no_int fun a ha e => by
    have hn := adrs_nm ha
    rw [e] at hn
    obtain ⟨q, hq, e2⟩ := List.mem_map.mp hn
    have := nms q hq
    rw [e2] at this
    exact absurd this (by decide +kernel)
  have each : ∀ v ∈ [V.ref t1, V.ref t2, V.ref t3, V.ref t4, V.ref t5, V.ref t6], ∃ t v1 v2 d1 d2, v = .ref t ∧ J10 t = some (.tup [v1, v2]) ∧ Th K J10 v1 d1 ∧ Th K J10 v2 d2 ∧ shortS d1 ∧ wordAt qs d1 d2 = none := by
    intro v hv
    rcases List.mem_cons.mp hv with rfl | hv
    · exact ⟨t1, _, _, _, _, rfl, r1 _ _ g0, .dat (.str _), .dat (.int _), by show (Str.ofString "nosuch").length ≤ 1000; decide +kernel, noS⟩
    rcases List.mem_cons.mp hv with rfl | hv
    · exact ⟨t2, _, _, _, _, rfl, r2 _ _ g1, .dat .non, .dat (.int _), trivial, rfl⟩
    rcases List.mem_cons.mp hv with rfl | hv
    · exact ⟨t3, _, _, .list [], _, rfl, r4 _ _ g3, .dat (.lst (SqL.of (r3 _ _ g2)) .nil), .dat (.int _), trivial, rfl⟩
    rcases List.mem_cons.mp hv with rfl | hv
    · exact ⟨t4, _, _, .tuple [.str z], _, rfl, r6 _ _ g5, .dat (.tup (SqT.of (r5 _ _ g4)) (.cons (.str _) .nil)), .dat (.int _), trivial, rfl⟩
    rcases List.mem_cons.mp hv with rfl | hv
    · exact ⟨t5, _, _, _, .list [.int 0], rfl, r8 _ _ g7, .dat (.str _), .dat (.lst (SqL.of (r7 _ _ g6)) (.cons (.int _) .nil)), nz.sh, rfl⟩
    rcases List.mem_cons.mp hv with rfl | hv
    · exact ⟨t6, _, _, .dict [], _, rfl, r10 _ _ g9, .dct (r9 _ _ g8), .dat .non, trivial, rfl⟩
    · cases hv
  refine ⟨tp, rfl, ⟨_, SqT.of g10⟩, ?_⟩
  refine for_it (walk_tup (xs := [V.ref t1, V.ref t2, V.ref t3, V.ref t4, V.ref t5, V.ref t6])) (fun i σ Hj => ∃ o6' o7', σ = sgT x M s0 (some (.str z)) o4 o5 o6' o7' ∧ Ft K T' C x M s0 xs qs a0 Hj ∧ LamX.ExtN J10 Hj)
    ⟨o6, o7, rfl, hJ, LamX.ExtN.refl _⟩ (fun i σ Hj _ ⟨_, _, _, _, e⟩ => SqT.of (ext_tup e _ _ g10)) ?_ ?_
  · rintro i y σ Hj Hj' hi ⟨o6', o7', rfl, hj, ej⟩ ⟨rfl, hy⟩
    obtain ⟨t, v1, v2, d1, d2, rfl, ht, th1, th2, sh, no⟩ := each y (List.mem_of_getElem? hy)
    refine ⟨t, _, rfl, SqT.of (ext_tup ej _ _ ht), rfl, _, _, rfl, _, _, rfl, rfl, ?_⟩
    exact q0 _ Hj' x M s0 xs qs a0 v1 v2 d1 d2 _ _ _ hj (th_ext ej th1) (th_ext ej th2) sh no fun H' h' e' => ⟨_, _, rfl, h', ej.trans e'⟩
  · rintro σ Hj ⟨o6', o7', rfl, hj, ej⟩
    exact q Hj o6' o7' hj ((LamX.ExtN.of r0).trans ej)
end
def spTold (K : PySem.W.Frag) (T' : List (Addr × Str)) (C : Addr) : Sp := fun vs H Q _ => ∃ (x M s0 : Addr) (xs : List V) (qs : List Pk) (a0 : Str × Int), vs = [.ref x, .ref M, .ref s0] ∧ Ft K T' C x M s0 xs qs a0 H ∧ (∀ q ∈ qs, q.1 ∈ nm4) ∧ 0 < qs.length ∧
  ∀ H', LamX.ExtN H H' → LamX.Tabs T' H' → Q (.bl true) H'
theorem ok_told {P : Program} {w : World} {K : PySem.W.Frag} {mg : Str → Option Value} {base : Heap} {C CB CW CS CN f c tw : Addr} {fd : FuncData} {T' : List (Addr × Str)} (F : FunM K "_law_told_right" "_law_told_right" sTold c f fd) (L : TT P w K mg base C CB CW CS CN) (TB : LamX.TabB base mg c tw) (hmT : (tw, qTold) ∈ T') (hu : ∀ p ∈ T', p.1 = tw → p.2 = qTold) : FnOk P w K mg base CX0 13 f fd ["image", "pieces", "start"] (spTold K T' C) := by
  refine F.okC scTold (fun vs H Q E h => ?_) (fun A outer s H vs Q E hr h => ?_)
  · obtain ⟨x, M, s0, xs, qs, a0, rfl, _⟩ := h
    rfl
  · obtain ⟨x, M, s0, xs, qs, a0, rfl, h, nms, l0, q⟩ := h
    obtain ⟨t0, h0, q0⟩ := to0 (E := E) (A := A) (outer := outer) (s := s) (H0 := H) (f := f) (c := c) (T' := T') L hr
    obtain ⟨t1, h1, q1⟩ := to1 (E := E) (A := A) (outer := outer) (s := s) (H0 := H) (f := f) (c := c) L TB hmT hu hr
    obtain ⟨t2, h2, q2⟩ := to2 (P := P) (w := w) (K := K) (mg := mg) (base := base) (C := C) (T' := T') (E := E) (A := A) (outer := outer) (s := s) (H0 := H) (f := f) (c := c) hr
    obtain ⟨t3, h3, q3⟩ := to_walk3 (E := E) (A := A) (outer := outer) (s := s) (H0 := H) (f := f) (c := c) L TB hmT hu hr
    refine ⟨_, pss_cons h0 (pss_cons h1 (pss_cons h2 (pss_cons h3 (pss_one (ps_ret pe_bl))))), ?_⟩
    refine q0 _ H x M s0 xs qs a0 h fun H1 f1 e1 => ?_
    refine q1 _ H1 x M s0 xs qs a0 f1 (fun q hq => nm4_ok _ (nms q hq)) fun H2 o3 o4 o5 o6 o7 f2 e2 => ?_
    have hq0 := List.getElem?_eq_getElem l0
    refine q2 _ H2 x M s0 xs qs a0 _ _ _ _ _ _ f2 hq0 ?_
    refine q3 _ H2 x M s0 xs qs a0 _ _ _ _ _ f2 nms (nm4_ok _ (nms _ (List.mem_of_getElem? hq0))) fun H3 o6' o7' f3 e3 => ?_
    exact q H3 (e1.trans (e2.trans e3)) f3.tabs
end DR

namespace DR
open PySem PySem.Spec PyProof.Rows L2
/-! ### images made of data -/
/-- Image(..) -/
structure MkI (P : Program) (w : World) (K : PySem.W.Frag) (mg : Str → Option Value) (base : Heap) (C CB CW CS : Addr) : Prop where
  g : mg "Image" = some (.ref C)
  ex : ∃ (f : Addr) (fd : FuncData), _root_.L2.Mk K C f ∧ Binds K fd ["self", "pieces", "start"] [] ∧ FnOk P w K mg base (L2.CX P w) 7 f fd ["self", "pieces", "start"] (spImg K C CB CW CS)
theorem pe_makeI {X : Cx} {C CB CW CS : Addr} {E : XK} {p pos : Pos} {e : Expr} {es : List Expr} {t : TA} (M : MkI X.prog X.w X.K X.mg X.base C CB CW CS) (hr : Room 8 X.A) (hg : Gl X "Image") (hx : Passes (L2.CX X.prog X.w) X E) (ha : PA X (e :: es) t)
    (he : starEach (e :: es) X.env = (false, eval e X.env) :: starEach es X.env := by rfl) (hpl : (backTo pos (starEach es X.env)).any (·.1) = false := by rfl) : PE X (.Call (.Name "Image" p) (e :: es) [] pos) (tMake C (spImg X.K C CB CW CS) [] E t) := by
  obtain ⟨f, fd, mk, b, F⟩ := M.ex
  exact pe_make mk F hr hg M.g b .nil hx ha (by decide) he hpl
theorem good_uniq : ∀ {ds : List PyData} {qs qs' : List Pk}, PySem.W.EachIs GoodP ds qs → PySem.W.EachIs GoodP ds qs' → qs = qs'
  | _, _, _, .nil, .nil => rfl
  | _, _, _, .cons h t, .cons h' t' => by
    have h : readPc _ = some _ := h
    have h' : readPc _ = some _ := h'
    rw [h] at h'
    rw [Option.some.inj h', good_uniq t t']
theorem each_take {α β : Type} {R : α → β → Prop} : ∀ (i : Nat) {as : List α} {bs : List β}, PySem.W.EachIs R as bs → PySem.W.EachIs R (as.take i) (bs.take i)
  | 0, _, _, _ => by rw [List.take_zero, List.take_zero]; exact .nil
  | i + 1, _, _, .nil => by rw [List.take_nil, List.take_nil]; exact .nil
  | i + 1, _, _, .cons h t => by
    rw [List.take_succ_cons, List.take_succ_cons]
    exact .cons h (each_take i t)
theorem pcd_good : ∀ {ds : List PyData} {qs : List Pk}, PySem.W.EachIs PcD ds qs → PySem.W.EachIs GoodP ds qs
  | _, _, .nil => .nil
  | _, _, .cons h t => .cons h.1 (pcd_good t)
theorem bad_none {ds : List PyData} {qs : List Pk} (h : PySem.W.EachIs GoodP ds qs) (nod : (qs.map (·.1)).Nodup) {i : Nat} (b : BadP ds i) : False := by
  obtain ⟨x, qs', hx, h', nod', bad⟩ := b
  obtain ⟨q, hq, hg⟩ := eachs_get h hx
  have hg : readPc x = some q := hg
  rcases bad with bad | ⟨q', e, hm⟩
  · rw [hg] at bad; cases bad
  · rw [hg] at e
    obtain rfl := Option.some.inj e
    obtain rfl := good_uniq (each_take i h) h'
    have : q.1 ∉ (qs.take i).map (·.1) := by
      rw [List.map_take]
      exact take_not nod (by rw [List.getElem?_map, hq]; rfl)
    exact this hm
/-- the first thing that is wrong stands at k -/
structure BadAt (ds : List PyData) (k : Nat) : Prop where
  ex : ∃ x qs, ds[k]? = some x ∧ PySem.W.EachIs GoodP (ds.take k) qs ∧ (qs.map (·.1)).Nodup ∧ (readPc x = none ∨ ∃ q, readPc x = some q ∧ q.1 ∈ qs.map (·.1))
theorem take_take_le {α : Type} {l : List α} {i k : Nat} (h : i ≤ k) : (l.take k).take i = l.take i := by rw [List.take_take, Nat.min_eq_left h]
theorem BadAt.uniq {ds : List PyData} {k i : Nat} (h : BadAt ds k) (b : BadP ds i) : i = k := by
  obtain ⟨x, qs, hx, hg, nod, bad⟩ := h.ex
  rcases Nat.lt_trichotomy i k with lt | e | lt
  · refine (bad_none hg nod (i := i) ?_).elim
    obtain ⟨y, qs', hy, h', nod', bad'⟩ := b
    refine ⟨y, qs', ?_, by rw [take_take_le (Nat.le_of_lt lt)]; exact h', nod', bad'⟩
    rw [List.getElem?_take, if_pos lt]
    exact hy
  · exact e
  · obtain ⟨y, qs', hy, h', nod', bad'⟩ := b
    refine (bad_none h' nod' (i := k) ⟨x, qs, ?_, by rw [take_take_le (Nat.le_of_lt lt)]; exact hg, nod, bad⟩).elim
    rw [List.getElem?_take, if_pos lt]
    exact hx
theorem BadAt.not {ds : List PyData} {k : Nat} (h : BadAt ds k) {qs : List Pk} (g : PySem.W.EachIs GoodP ds qs) (nod : (qs.map (·.1)).Nodup) : False := bad_none g nod (i := k) h.ex
/-- what an image can be made of -/
structure HdOk (d : PyData) (qs : List Pk) : Prop where
  ex : ∃ ds, items d = some ds ∧ PySem.W.EachIs PcD ds qs
  few : qs.length ≤ 10
  len : ∀ q ∈ qs, q.2.2.length ≤ 10
  nod : (qs.map (·.1)).Nodup
theorem own_none {qs : List Pk} (h : ∀ q ∈ qs, ∀ w ∈ q.2.2, ∀ u ∈ w.2.map (·.1), ∃ z ∈ qs.map (·.1), u = [.inr sPiece, .inr z]) : badWord qs = none := by
  unfold badWord
  rw [List.find?_eq_none]
  intro a ha c
  obtain ⟨q, hq, ha'⟩ := List.mem_flatMap.mp ha
  unfold adrsP at ha'
  obtain ⟨wk, hwk, rfl⟩ := List.mem_map.mp ha'
  have hw : wk.1 ∈ q.2.2 := by
    obtain ⟨i, hi⟩ := List.mem_iff_getElem?.mp hwk
    rw [List.getElem?_zipIdx] at hi
    cases e : q.2.2[i]? with
    | none => rw [e] at hi; cases hi
    | some y =>
      rw [e] at hi
      have := Option.some.inj hi
      rw [← this]
      exact List.mem_of_getElem? e
  have : ownA qs (q.1, wk.2, wk.1) = true := by
    unfold ownA
    rw [List.all_eq_true]
    intro x hx
    obtain ⟨z, hz, e⟩ := h q hq wk.1 hw x.1 (List.mem_map.mpr ⟨x, hx, rfl⟩)
    rw [e]
    show (decide (sPiece = sPiece) && (valV (kindD qs) (.inr z)).isSome) = true
    obtain ⟨k, hk⟩ := kind_has hz
    rw [kind_val2, hk]
    simp
  rw [this] at c
  cases c
section
variable {K : PySem.W.Frag} {C CB CW CS : Addr} {H : Hp} {v sv : V} {d sd : PyData} {Q : VK} {E : XK} {x dx : Addr}
theorem made_same (hx : H x = none) (hdx : H dx = none) (hne : dx ≠ x) : Same H (upd (upd H dx (.own x)) x (.ins C dx [])) := (same_new (o := .own x) hdx).trans (same_new (o := .ins C dx []) (H := upd H dx (.own x)) (by rw [upd_ne hne.symm]; exact hx))
theorem img_go {qs : List Pk} {a : Str × Int} (th : ThE K H v d) (ths : Th K H sv sd) (oks : okAd sd) (hd : HdOk d qs) (bw : badWord qs = none) (rd : readAdr sd = some a) (sb : startB qs a = true) (hx : H x = none) (hdx : H dx = none) (hne : dx ≠ x) (q : ∀ H2, Same H H2 → ImgG H2 C x qs a → Q .non H2) :
    spImg K C CB CW CS (.ref x :: ([v, sv] ++ [])) (upd (upd H dx (.own x)) x (.ins C dx [])) Q E := by
  have s9 := made_same (C := C) hx hdx hne
  obtain ⟨ds, ei, hds⟩ := hd.ex
  have lds := hds.length
  have few := hd.few
  have hg := pcd_good hds
  refine ⟨x, dx, v, sv, d, sd, rfl, upd_same, thE_same s9 th, th_same s9 ths, oks, .inr ⟨ds, ei, by omega, fun y hy => ?_, fun i b => (bad_none hg hd.nod b).elim, fun qs' g' nod' => ?_⟩⟩
  · obtain ⟨q1, hq1, h1⟩ := each_in hds y hy
    refine ⟨h1.2, fun q2 e => ?_⟩
    rw [h1.1] at e
    obtain rfl := Option.some.inj e
    exact hd.len _ hq1
  · obtain rfl := good_uniq hg g'
    refine ⟨fun a e => (by rw [bw] at e; cases e), fun _ => ⟨fun z => ?_, fun a' ra _ H' kp hi => ?_⟩⟩
    · rcases z with z | ⟨a', z1, z2⟩
      · rw [rd] at z; cases z
      · rw [rd] at z1
        obtain rfl := Option.some.inj z1
        rw [sb] at z2; cases z2
    · rw [rd] at ra
      obtain rfl := Option.some.inj ra
      exact q H' (fun b o e => kp b o (ne_of_none e hx) (s9 _ _ e)) hi
theorem err_at {CE : Addr} {fs : List (Str × V)} (hx : H x = none) (hdx : H dx = none) (hne : dx ≠ x) (q : ∀ H2 d2, Same H H2 → H2 d2 = none → E (.ref CE) (some d2) (upd H2 d2 (.xd fs))) : ErrAt E (upd (upd H dx (.own x)) x (.ins C dx [])) x CE fs := fun H' d' kp hd' =>
  q H' d' (fun b o e => kp b o (ne_of_none e hx) (made_same (C := C) hx hdx hne _ _ e)) hd'
theorem img_norow (th : ThE K H v d) (ths : Th K H sv sd) (oks : okAd sd) (ei : items d = none) (hx : H x = none) (hdx : H dx = none) (hne : dx ≠ x) (q : ∀ H2 d2, Same H H2 → H2 d2 = none → E (.ref CB) (some d2) (upd H2 d2 (.xd [("index", .int 0)]))) :
    spImg K C CB CW CS (.ref x :: ([v, sv] ++ [])) (upd (upd H dx (.own x)) x (.ins C dx [])) Q E :=
  ⟨x, dx, v, sv, d, sd, rfl, upd_same, thE_same (made_same hx hdx hne) th, th_same (made_same hx hdx hne) ths, oks, .inl ⟨ei, err_at hx hdx hne q⟩⟩
theorem img_piece {ds : List PyData} {k : Nat} (th : ThE K H v d) (ths : Th K H sv sd) (oks : okAd sd) (ei : items d = some ds) (few : ds.length ≤ 10) (okd : ∀ y ∈ ds, okPc y ∧ ∀ q, readPc y = some q → q.2.2.length ≤ 10) (b : BadAt ds k) (hx : H x = none) (hdx : H dx = none) (hne : dx ≠ x) (q : ∀ H2 d2, Same H H2 → H2 d2 = none → E (.ref CB) (some d2) (upd H2 d2 (.xd [("index", .int (k : Nat))]))) :
    spImg K C CB CW CS (.ref x :: ([v, sv] ++ [])) (upd (upd H dx (.own x)) x (.ins C dx [])) Q E :=
  ⟨x, dx, v, sv, d, sd, rfl, upd_same, thE_same (made_same hx hdx hne) th, th_same (made_same hx hdx hne) ths, oks, .inr ⟨ds, ei, few, okd, fun i hi => by
    rw [b.uniq hi]
    exact err_at hx hdx hne q, fun qs g nod => (b.not g nod).elim⟩⟩
theorem hd_okd {ds : List PyData} {qs : List Pk} (hds : PySem.W.EachIs PcD ds qs) (len : ∀ q ∈ qs, q.2.2.length ≤ 10) : ∀ y ∈ ds, okPc y ∧ ∀ q, readPc y = some q → q.2.2.length ≤ 10 := fun y hy => by
  obtain ⟨q1, hq1, h1⟩ := each_in hds y hy
  refine ⟨h1.2, fun q2 e => ?_⟩
  rw [h1.1] at e
  obtain rfl := Option.some.inj e
  exact len _ hq1
theorem img_word {qs : List Pk} {a : Adr} (th : ThE K H v d) (ths : Th K H sv sd) (oks : okAd sd) (hd : HdOk d qs) (bw : badWord qs = some a) (hx : H x = none) (hdx : H dx = none) (hne : dx ≠ x) (q : ∀ H2 d2, Same H H2 → H2 d2 = none → E (.ref CW) (some d2) (upd H2 d2 (.xd [("k", .int (a.2.1 : Nat)), ("p", .str a.1)]))) :
    spImg K C CB CW CS (.ref x :: ([v, sv] ++ [])) (upd (upd H dx (.own x)) x (.ins C dx [])) Q E := by
  obtain ⟨ds, ei, hds⟩ := hd.ex
  have lds := hds.length
  have few := hd.few
  have hg := pcd_good hds
  refine ⟨x, dx, v, sv, d, sd, rfl, upd_same, thE_same (made_same hx hdx hne) th, th_same (made_same hx hdx hne) ths, oks, .inr ⟨ds, ei, by omega, hd_okd hds hd.len, fun i b => (bad_none hg hd.nod b).elim, fun qs' g' nod' => ?_⟩⟩
  obtain rfl := good_uniq hg g'
  refine ⟨fun a' e => ?_, fun e => by rw [bw] at e; cases e⟩
  rw [bw] at e
  obtain rfl := Option.some.inj e
  exact err_at hx hdx hne q
theorem img_start {qs : List Pk} (th : ThE K H v d) (ths : Th K H sv sd) (oks : okAd sd) (hd : HdOk d qs) (bw : badWord qs = none) (no : ∀ a, readAdr sd = some a → startB qs a = false) (hx : H x = none) (hdx : H dx = none) (hne : dx ≠ x) (q : ∀ H2 d2, Same H H2 → H2 d2 = none → E (.ref CS) (some d2) (upd H2 d2 (.xd [("address", sv)]))) :
    spImg K C CB CW CS (.ref x :: ([v, sv] ++ [])) (upd (upd H dx (.own x)) x (.ins C dx [])) Q E := by
  obtain ⟨ds, ei, hds⟩ := hd.ex
  have lds := hds.length
  have few := hd.few
  have hg := pcd_good hds
  refine ⟨x, dx, v, sv, d, sd, rfl, upd_same, thE_same (made_same hx hdx hne) th, th_same (made_same hx hdx hne) ths, oks, .inr ⟨ds, ei, by omega, hd_okd hds hd.len, fun i b => (bad_none hg hd.nod b).elim, fun qs' g' nod' => ?_⟩⟩
  obtain rfl := good_uniq hg g'
  refine ⟨fun a' e => (by rw [bw] at e; cases e), fun _ => ⟨fun _ => err_at hx hdx hne q, fun a ra sb => ?_⟩⟩
  rw [no a ra] at sb
  cases sb
end
theorem kind_mem {qs : List Pk} (nod : (qs.map (·.1)).Nodup) {q : Pk} (hq : q ∈ qs) : kindOf qs q.1 = some q.2.1 := by
  unfold kindOf
  have := find_uniq (f := fun q : Pk => q.1) (List.pairwise_map.mp nod) hq
  rw [this]
  rfl
theorem codes_start {qs : List Pk} (nod : (qs.map (·.1)).Nodup) {a : Str × Int} (h : a ∈ codesOf qs) : startB qs a = true := by
  obtain ⟨q, hq, ha⟩ := List.mem_flatMap.mp h
  unfold codesP at ha
  split at ha
  · rename_i hk
    obtain ⟨j, hj, rfl⟩ := List.mem_map.mp ha
    have hj := List.mem_range.mp hj
    have hw := List.getElem?_eq_getElem hj
    unfold startB
    rw [kind_mem nod hq, hk]
    rw [show ∀ b : Bool, (b && decide (some (Str.ofString "code") = (do
          let a ← some "code"
          pure (Str.ofString a)))) = b from fun b => by simp, List.any_eq_true]
    exact ⟨(q.1, j, q.2.2[j]), List.mem_flatMap.mpr ⟨q, hq, List.mem_of_getElem? (adrsP_at hw)⟩, by simp [adrK, keyA]⟩
  · cases ha
theorem rd_ad {z : Str} {n : Int} (h : isNmS z = true) : readAdr (.tuple [.str z, .int n]) = some (z, n) := by
  show (if isNmS z = true then _ else _) = _
  rw [if_pos h]
theorem rd_adL {z : Str} {n : Int} (h : isNmS z = true) : readAdr (.list [.str z, .int n]) = some (z, n) := by
  show (if isNmS z = true then _ else _) = _
  rw [if_pos h]
theorem ok_ad {z : Str} {n : Int} (h : NmOk z) : okAd (.tuple [.str z, .int n]) := fun x y e => by
  have e := Option.some.inj (show some [PyData.str z, .int n] = some [x, y] from e)
  obtain rfl := (List.cons.inj e).1
  exact h.sh
theorem ok_adL {z : Str} {n : Int} (h : NmOk z) : okAd (.list [.str z, .int n]) := fun x y e => by
  have e := Option.some.inj (show some [PyData.str z, .int n] = some [x, y] from e)
  obtain rfl := (List.cons.inj e).1
  exact h.sh
end DR

namespace DR
open PySem PySem.Spec PyProof.Rows L2
/-! ### _law_unlike -/
theorem cut_but {xs : List V} {v : V} : cutV (xs ++ [v]) none (some (-1)) = xs ∧ ¬ (HT.sIx (xs ++ [v]).length 0 none = 0 ∧ HT.sIx (xs ++ [v]).length (xs ++ [v]).length (some (-1)) = (xs ++ [v]).length) := by
  have e : HT.sIx (xs ++ [v]).length (xs ++ [v]).length (some (-1)) = xs.length := by
    show (if (-1 : Int) < 0 then (-1 + ((xs ++ [v]).length : Int)).toNat else min (-1 : Int).toNat (xs ++ [v]).length) = xs.length
    rw [if_pos (by decide), List.length_append, List.length_singleton]
    omega
  refine ⟨?_, fun h => ?_⟩
  · unfold cutV
    rw [e, HT.sIx_none, List.drop_zero, Nat.sub_zero, List.take_left']
    rfl
  · have h2 := h.2
    rw [e, List.length_append, List.length_singleton] at h2
    omega
theorem catA_go {K : PySem.W.Frag} {a b : Addr} {xs ys : List V} {H : Hp} {Q : VK} (ha : H a = some (.tup xs)) (hb : H b = some (.tup ys)) (hy : ys ≠ []) (sz : xs.length + ys.length ≤ 1000) (q : ∀ H' p, Same H H' → H' p = some (.tup (xs ++ ys)) → Q (.ref p) H') : rCatA K (.ref a) (.ref b) H Q :=
  ⟨a, b, xs, ys, rfl, rfl, SqT.of ha, SqT.of hb, Nat.le_of_lt (small1000 sz), fun e => q H b (Same.refl H) (by rw [e]; exact hb), fun _ e => absurd e hy, fun _ _ p hp => q _ p (same_new hp) upd_same⟩
theorem each_unsnoc {α β : Type} {R : α → β → Prop} {as : List α} {b : β} : ∀ {bs : List β}, PySem.W.EachIs R as (bs ++ [b]) → ∃ us y, as = us ++ [y] ∧ PySem.W.EachIs R us bs ∧ R y b := by
  intro bs
  induction bs generalizing as with
  | nil =>
    intro h
    cases h with
    | cons h t => cases t; exact ⟨[], _, rfl, .nil, h⟩
  | cons c bs ih =>
    intro h
    cases h with
    | cons h t =>
      obtain ⟨us, y, rfl, h1, h2⟩ := ih t
      exact ⟨_ :: us, y, rfl, .cons h h1, h2⟩
theorem form_one {u : List Key} {m : Int} (h : m ≠ 0) : form (accAll [(u, m)]) = [(u, m)] := by
  have e : accAll [(u, m)] = [(u, m)] := by simp [accAll, addP, putI, getI]
  rw [e]
  simp [form, keysN, getI, h]
theorem wd_one {z : Str} (h : NmOk z) : WdOk 0 [([.inr sPiece, .inr z], 7)] := by
  have := wd_of (n := 0) (l := [([.inr sPiece, .inr z], 7)]) (fun u hu => by
    rw [List.mem_singleton.mp hu]
    exact ⟨z, rfl, h⟩) (by show 1 ≤ 5; decide) (fun q hq => by
    rw [List.mem_singleton.mp hq]
    show (7 : Int).natAbs ≤ 2048
    decide) (by unfold Sz; decide)
  rw [form_one (by decide)] at this
  exact this
theorem wd_bare {n : Int} (h : Sz n) : WdOk n [] := by
  have := wd_of (n := n) (l := []) (fun u hu => by cases hu) (by decide) (fun q hq => by cases hq) h
  rw [form_nil0] at this
  exact this
/-- pieces of which an image can be made -/
structure GL (qs : List Pk) : Prop where
  each : ∀ q ∈ qs, QOk q
  nod : (qs.map (·.1)).Nodup
  few : qs.length ≤ 10
  own : ∀ q ∈ qs, ∀ w ∈ q.2.2, ∀ u ∈ w.2.map (·.1), ∃ z ∈ qs.map (·.1), u = [.inr sPiece, .inr z]
theorem pcd_each : ∀ {qs : List Pk}, (∀ q ∈ qs, QOk q) → PySem.W.EachIs PcD (qs.map pkD) qs
  | [], _ => .nil
  | q :: qs, h => .cons (h q (List.mem_cons_self ..)).pc (pcd_each fun q' hq => h q' (List.mem_cons_of_mem _ hq))
theorem GL.hd {qs : List Pk} (h : GL qs) : HdOk (.list (qs.map pkD)) qs := ⟨⟨_, rfl, pcd_each h.each⟩, h.few, fun q hq => (h.each q hq).few, h.nod⟩
theorem GL.bw {qs : List Pk} (h : GL qs) : badWord qs = none := own_none h.own
theorem GL.nmq {qs : List Pk} (h : GL qs) : NmQ qs := fun q hq w hw => ((h.each q hq).wd w hw).nm
theorem codes_nm {qs : List Pk} (h : GL qs) {a : Str × Int} (ha : a ∈ codesOf qs) : NmOk a.1 := by
  obtain ⟨q, hq, ha⟩ := List.mem_flatMap.mp ha
  unfold codesP at ha
  split at ha
  · obtain ⟨j, _, rfl⟩ := List.mem_map.mp ha
    exact (h.each q hq).nm
  · cases ha
/-- an image of such pieces that stand in a list -/
theorem mk_go {K : PySem.W.Frag} {C CB CW CS : Addr} {H : Hp} {L s0 : Addr} {xs : List V} {qs : List Pk} {a : Str × Int} {Q : VK} {E : XK} {x dx : Addr} (hL : H L = some (.lst xs)) (hxs : PySem.W.EachIs (PieceG H) xs qs) (gl : GL qs) (hs : H s0 = some (.tup [.str a.1, .int a.2])) (ha : a ∈ codesOf qs) (hx : H x = none) (hdx : H dx = none) (hne : dx ≠ x) (q : ∀ H2, Same H H2 → ImgG H2 C x qs a → Q .non H2) :
    spImg K C CB CW CS (.ref x :: ([.ref L, .ref s0] ++ [])) (upd (upd H dx (.own x)) x (.ins C dx [])) Q E :=
  img_go (thE_of (.dat (.lst (SqL.of hL) (pieces_dp hxs)))) (.dat (.tup (SqT.of hs) (.cons (.str _) (.cons (.int _) .nil)))) (ok_ad (codes_nm gl ha)) gl.hd gl.bw (rd_ad (codes_nm gl ha).nm) (codes_start gl.nod ha) hx hdx hne q
/-- an image that is unlike -/
def Oth (C : Addr) (qs : List Pk) (a0 : Str × Int) (H : Hp) (v : V) : Prop := ∃ x qs' b0, v = .ref x ∧ ImgG H C x qs' b0 ∧ (qs ≠ qs' ∨ a0 ≠ b0)
/-- all stays but the lists -/
def ExtL (H H' : Hp) : Prop := ∀ b o, H b = some o → (∀ xs, o ≠ .lst xs) → H' b = some o
theorem ExtL.of {H H' : Hp} (e : Same H H') : ExtL H H' := fun b o h _ => e b o h
theorem ExtL.trans {H H1 H2 : Hp} (a : ExtL H H1) (b : ExtL H1 H2) : ExtL H H2 := fun c o h n => b c o (a c o h n) n
theorem ExtL.put {H : Hp} {F : Addr} {ys : List V} {o : HO} (h : H F = some (.lst ys)) : ExtL H (upd H F o) := fun b x e n => by
  rw [upd_ne (fun z => by rw [z, h] at e; exact n _ (Option.some.inj e).symm)]
  exact e
theorem ExtL.tup {H H' : Hp} (e : ExtL H H') : TupS H H' := fun b xs h => e _ _ h (by intro x z; cases z)
theorem imgG_l {H H' : Hp} (e : ExtL H H') {C x : Addr} {qs : List Pk} {a0 : Str × Int} (h : ImgG H C x qs a0) : ImgG H' C x qs a0 := by
  obtain ⟨ok, dx, p, d, r, xs, ks, h1, h2, h3, h4, h5, h6⟩ := h
  exact ⟨ok, dx, p, d, r, xs, ks, e _ _ h1 (by intro x z; cases z), e _ _ h2 (by intro x z; cases z), eachs_imp (fun _ _ => pieceG_s e.tup) h3, e _ _ h4 (by intro x z; cases z), eachs_imp (fun _ _ => adrV_s e.tup) h5, e _ _ h6 (by intro x z; cases z)⟩
theorem oth_l {H H' : Hp} (e : ExtL H H') {C : Addr} {qs : List Pk} {a0 : Str × Int} {v : V} (h : Oth C qs a0 H v) : Oth C qs a0 H' v := by
  obtain ⟨x, qs', b0, h1, h2, h3⟩ := h
  exact ⟨x, qs', b0, h1, imgG_l e h2, h3⟩
abbrev sUnl : Stmt := topS 43
abbrev NUn : List Str := ["pool", "pieces", "start", "p", "kind", "words", "number", "parts", "found", "q", "other", "row"]
theorem scUnl : FnScope NUn ["pool", "pieces", "start"] (defScope sUnl) := ⟨rfl, rfl, rfl, by decide +kernel, rfl, by decide +kernel, by decide +kernel⟩
abbrev oU (i : Nat) : Stmt := (defBody sUnl).getD i (.Pass ⟨0, 0, 0, 0⟩)
abbrev XUn (P : Program) (w : World) (K : PySem.W.Frag) (mg : Str → Option Value) (base : Heap) (f : Addr) (cdv : Value) (A : Around) (outer : List Env) (s : Shared) (H : Hp) (E : XK) : Cx := (cxOf CX0 P w K mg base NUn "_law_unlike" (defScope sUnl) f cdv A outer s H E).nox
section
variable {P : Program} {w : World} {K : PySem.W.Frag} {mg : Str → Option Value} {base : Heap} {C CB CW CS f : Addr} {cdv : Value} {A : Around} {outer : List Env} {s : Shared} {H0 : Hp} {E : XK}
/-- what stands -/
structure Us (M s0 : Addr) (xs : List V) (qs : List Pk) (a0 : Str × Int) (H : Hp) : Prop where
  lst : H M = some (.lst xs)
  each : PySem.W.EachIs (PieceG H) xs qs
  st : H s0 = some (.tup [.str a0.1, .int a0.2])
theorem Us.same {M s0 : Addr} {xs : List V} {qs : List Pk} {a0 : Str × Int} {H H' : Hp} (h : Us M s0 xs qs a0 H) (e : Same H H') : Us M s0 xs qs a0 H' := ⟨e _ _ h.lst, eachs_imp (fun _ _ => pieceG_s (TupS.of e)) h.each, e _ _ h.st⟩
abbrev sgU (p M s0 : Addr) (o3 o4 o5 o6 o7 o8 o9 o10 o11 : Option V) : L2.St := [some (.ref p), some (.ref M), some (.ref s0), o3, o4, o5, o6, o7, o8, o9, o10, o11]
theorem un0 : ∃ t, PS (XUn P w K mg base f cdv A outer s H0 E) (oU 0) t ∧
    ∀ (D : Ends) (H : Hp) (p M s0 : Addr) (xs : List V) (q0 : Pk) (qs : List Pk) (a0 : Str × Int) (o3 o4 o5 o6 o7 o8 o9 o10 o11 : Option V), Us M s0 xs (q0 :: qs) a0 H →
      (∀ b ws, H b = some (.tup ws) → PySem.W.EachIs (SumP H) ws q0.2.2 → D.nx (sgU p M s0 (some (.str q0.1)) (some (.str q0.2.1)) (some (.ref b)) o6 o7 o8 o9 o10 o11) H) → t D (sgU p M s0 o3 o4 o5 o6 o7 o8 o9 o10 o11) H := by
  refine ⟨_, (ps_asg (pe_ix ix_list (pv 1) pe_int (fun _ _ => rfl)) (pg_tup rfl (pgs_cons (pg_name (i := 3) scUnl.nd rfl (.inl rfl)) (pgs_cons (pg_name (i := 4) scUnl.nd rfl (.inl rfl)) (pgs_cons (pg_name (i := 5) scUnl.nd rfl (.inl rfl)) pgs_nil))))), ?_⟩
  intro D H p M s0 xs q0 qs a0 o3 o4 o5 o6 o7 o8 o9 o10 o11 h q
  obtain ⟨y, hy, t, b, ws, rfl, ht, hb, hws⟩ := eachs_inv h.each (i := 0) rfl
  exact ⟨_, rfl, M, _, _, _, rfl, rfl, SqL.of h.lst, at_of hy, t, _, rfl, SqT.of ht, rfl, _, _, rfl, _, _, rfl, _, _, rfl, rfl, q b ws hb hws⟩
theorem un1 : ∃ t, PS (XUn P w K mg base f cdv A outer s H0 E) (oU 1) t ∧
    ∀ (D : Ends) (H : Hp) (p M s0 b : Addr) (ws : List V) (wl : List (Int × Mul)) (o3 o4 o6 o7 o8 o9 o10 o11 : Option V), H b = some (.tup ws) → PySem.W.EachIs (SumP H) ws (wl ++ [(0, [])]) →
      (∀ us y e, ws = us ++ [y] → PySem.W.EachIs (SumP H) us wl → H e = some (.tup []) → D.nx (sgU p M s0 o3 o4 (some (.ref b)) (some (.int 0)) (some (.ref e)) o8 o9 o10 o11) H) → t D (sgU p M s0 o3 o4 (some (.ref b)) o6 o7 o8 o9 o10 o11) H := by
  refine ⟨_, (ps_asg (pe_ix ix_tup (pv 5) (pe_un un_neg pe_int) (fun _ _ => rfl)) (pg_tup rfl (pgs_cons (pg_name (i := 6) scUnl.nd rfl (.inl rfl)) (pgs_cons (pg_name (i := 7) scUnl.nd rfl (.inl rfl)) pgs_nil)))), ?_⟩
  intro D H p M s0 b ws wl o3 o4 o6 o7 o8 o9 o10 o11 hb hws q
  obtain ⟨us, y, rfl, hus, hy⟩ : ∃ us y, ws = us ++ [y] ∧ PySem.W.EachIs (SumP H) us wl ∧ SumP H y (0, []) := each_unsnoc hws
  obtain ⟨a, e, ps, rfl, ha, he, hps⟩ := hy
  cases hps
  exact ⟨_, rfl, _, rfl, b, _, _, _, rfl, rfl, SqT.of hb, at_last, a, _, rfl, SqT.of ha, rfl, _, _, rfl, _, _, rfl, rfl, q us _ e rfl hus he⟩
theorem un2 (M : MkI P w K mg base C CB CW CS) (hr : Room 12 (XUn P w K mg base f cdv A outer s H0 E).A) : ∃ t, PS (XUn P w K mg base f cdv A outer s H0 E) (oU 2) t ∧
    ∀ (D : Ends) (H : Hp) (p Ma s0 b e : Addr) (xs us : List V) (y : V) (z k : Str) (wl : List (Int × Mul)) (qs : List Pk) (a0 : Str × Int) (o8 o9 o10 o11 : Option V), Us Ma s0 xs ((z, k, wl ++ [(0, [])]) :: qs) a0 H → GL ((z, k, wl ++ [(0, [])]) :: qs) → GL ((z, k, wl ++ [(1, [])]) :: qs) → a0 ∈ codesOf ((z, k, wl ++ [(1, [])]) :: qs) → H b = some (.tup (us ++ [y])) → PySem.W.EachIs (SumP H) us wl → H e = some (.tup []) →
      (∀ H' F ys, Same H H' → H F = none → H' F = some (.lst ys) → (∀ v ∈ ys, Oth C ((z, k, wl ++ [(0, [])]) :: qs) a0 H' v) → ys.length = 1 → D.nx (sgU p Ma s0 (some (.str z)) (some (.str k)) (some (.ref b)) (some (.int 0)) (some (.ref e)) (some (.ref F)) o9 o10 o11) H') → t D (sgU p Ma s0 (some (.str z)) (some (.str k)) (some (.ref b)) (some (.int 0)) (some (.ref e)) o8 o9 o10 o11) H := by
  refine ⟨_, (ps_set (i := 8) scUnl.nd rfl (.inl rfl) (pe_lst (pa_cons (pe_makeI M (hr.mono (by decide)) (by rfl) passN (pa_cons (pe_op op_cat (pe_lst (pa_cons (pe_tup (pa_cons (pv 3) (pa_cons (pv 4) (pa_cons (pe_op op_catA (pe_slice sl_tup (pv 5) po_none (po_some (pe_un un_neg pe_int))) (pe_tup (pa_cons (pe_tup (pa_cons (pe_op op_add (pv 6) pe_int) (pa_cons (pv 7) pa_nil))) pa_nil))) pa_nil)))) pa_nil)) (pe_slice sl_list (pv 1) (po_some pe_int) po_none)) (pa_cons (pv 2) pa_nil))) pa_nil))), ?_⟩
  intro D H p Ma s0 b e xs us y z k wl qs a0 o8 o9 o10 o11 h gl gl1 ha hb hus he q
  obtain ⟨c1, c2⟩ := cut_but (xs := us) (v := y)
  have lu : us.length ≤ 100 := by
    have := hus.length
    have := (gl1.each _ (List.mem_cons_self ..)).few
    simp only [List.length_append] at this
    omega
  refine ⟨_, rfl, _, rfl, _, rfl, 1, rfl, -1, rfl, b, _, rfl, SqT.of hb, c2, fun r1 n1 => ?_⟩
  rw [c1]
  have k1 := same_new (o := .tup us) n1
  have g1 : upd H r1 (.tup us) r1 = some (.tup us) := upd_same
  generalize upd H r1 (.tup us) = H1 at k1 g1 ⊢
  refine ⟨_, rfl, _, _, rfl, rfl, _, rfl, (by show 2 ≤ sizeLine; decide), fun t1 n2 => ?_⟩
  have k2 := same_new (o := .tup [V.int (0 + 1), V.ref e]) n2
  have g2 : upd H1 t1 (.tup [V.int (0 + 1), V.ref e]) t1 = some (.tup [V.int (0 + 1), V.ref e]) := upd_same
  generalize upd H1 t1 (.tup [V.int (0 + 1), V.ref e]) = H2 at k2 g2 ⊢
  refine ⟨(by show 1 ≤ sizeLine; decide), fun t2 n3 => ?_⟩
  have k3 := same_new (o := .tup [V.ref t1]) n3
  have g3 : upd H2 t2 (.tup [V.ref t1]) t2 = some (.tup [V.ref t1]) := upd_same
  generalize upd H2 t2 (.tup [V.ref t1]) = H3 at k3 g3 ⊢
  refine catA_go (k3 _ _ (k2 _ _ g1)) g3 (by simp) (by simp; omega) fun H4 b' k4 g4 => ?_
  refine ⟨(by show 3 ≤ sizeLine; decide), fun t5 n5 => ?_⟩
  have k5 := same_new (o := .tup [V.str z, V.str k, V.ref b']) n5
  have g5 : upd H4 t5 (.tup [V.str z, V.str k, V.ref b']) t5 = some (.tup [V.str z, V.str k, V.ref b']) := upd_same
  generalize upd H4 t5 (.tup [V.str z, V.str k, V.ref b']) = H5 at k5 g5 ⊢
  refine ⟨(by show 1 ≤ sizeLine; decide), fun l6 n6 => ?_⟩
  have k6 := same_new (o := .lst [V.ref t5]) n6
  have g6 : upd H5 l6 (.lst [V.ref t5]) l6 = some (.lst [V.ref t5]) := upd_same
  generalize upd H5 l6 (.lst [V.ref t5]) = H6 at k6 g6 ⊢
  have S6 := k1.trans (k2.trans (k3.trans (k4.trans (k5.trans k6))))
  have h6 := h.same S6
  refine ⟨_, rfl, 1, rfl, Ma, xs, rfl, SqL.of h6.lst, fun l7 n7 => ?_⟩
  rw [cut_1]
  have k7 := same_new (o := .lst (xs.drop 1)) n7
  have g7 : upd H6 l7 (.lst (xs.drop 1)) l7 = some (.lst (xs.drop 1)) := upd_same
  generalize upd H6 l7 (.lst (xs.drop 1)) = H7 at k7 g7 ⊢
  have lx : xs.length = qs.length + 1 := h.each.length
  have few : qs.length + 1 ≤ 10 := gl.few
  refine ⟨l6, l7, [V.ref t5], xs.drop 1, rfl, rfl, k7 _ _ g6, g7, Nat.le_of_lt (small1000 (by simp; omega)), fun l8 n8 => ?_⟩
  have k8 := same_new (o := .lst ([V.ref t5] ++ xs.drop 1)) n8
  have g8 : upd H7 l8 (.lst ([V.ref t5] ++ xs.drop 1)) l8 = some (.lst ([V.ref t5] ++ xs.drop 1)) := upd_same
  generalize upd H7 l8 (.lst ([V.ref t5] ++ xs.drop 1)) = H8 at k8 g8 ⊢
  have S8 := S6.trans (k7.trans k8)
  have h8 := h.same S8
  have r8 := k7.trans k8
  have r6 := k6.trans r8
  have r5 := k5.trans r6
  have r4 := k4.trans r5
  have r3 := k3.trans r4
  have new : PieceG H8 (.ref t5) (z, k, wl ++ [(1, [])]) := ⟨t5, b', us ++ [.ref t1], rfl, r6 _ _ g5, r5 _ _ g4, eachs_snoc (R := SumP _) ⟨t1, e, [], rfl, r3 _ _ g2, S8 _ _ he, .nil⟩ (eachs_imp (fun _ _ => sumT_s (TupS.of S8)) hus)⟩
  have each8 : PySem.W.EachIs (PieceG H8) ([V.ref t5] ++ xs.drop 1) ((z, k, wl ++ [(1, [])]) :: qs) := by
    have := h8.each
    cases this with
    | cons _ t => exact .cons new t
  refine ⟨_, rfl, fun x dx hx hdx hne => mk_go g8 each8 gl1 h8.st ha hx hdx hne fun H9 s9 hi => ⟨rfl, (by show 1 ≤ sizeLine; decide), fun F hF => ?_⟩⟩
  have kF := same_new (o := .lst [V.ref x]) hF
  refine q _ F [V.ref x] ((S8.trans s9).trans kF) (none_of (S8.trans s9) hF) upd_same (fun v hv => ?_) rfl
  rw [List.mem_singleton.mp hv]
  refine ⟨x, _, a0, rfl, imgG_s kF hi, .inl fun e => ?_⟩
  have e1 := (List.cons.inj e).1
  have e2 : wl ++ [((0 : Int), ([] : Mul))] = wl ++ [(1, [])] := (Prod.mk.inj (Prod.mk.inj e1).2).2
  have e3 := (List.cons.inj (List.append_cancel_left e2)).1
  exact absurd (Prod.mk.inj e3).1 (by decide)
theorem un3 (M : MkI P w K mg base C CB CW CS) (hr : Room 12 (XUn P w K mg base f cdv A outer s H0 E).A) : ∃ t, PS (XUn P w K mg base f cdv A outer s H0 E) (oU 3) t ∧
    ∀ (D : Ends) (H : Hp) (p Ma s0 b e F : Addr) (xs us ys : List V) (y : V) (z k : Str) (wl : List (Int × Mul)) (qs : List Pk) (a0 : Str × Int) (o9 o10 o11 : Option V), Us Ma s0 xs ((z, k, wl ++ [(0, [])]) :: qs) a0 H → GL ((z, k, wl ++ [(0, [])]) :: qs) → GL ((z, k, wl ++ [(0, [([.inr sPiece, .inr z], 7)])]) :: qs) → a0 ∈ codesOf ((z, k, wl ++ [(0, [([.inr sPiece, .inr z], 7)])]) :: qs) → H b = some (.tup (us ++ [y])) → PySem.W.EachIs (SumP H) us wl → H e = some (.tup []) → H F = some (.lst ys) → ys.length ≤ 10 → (∀ v ∈ ys, Oth C ((z, k, wl ++ [(0, [])]) :: qs) a0 H v) →
      (∀ H' ys', (∀ c o, c ≠ F → H c = some o → H' c = some o) → H' F = some (.lst ys') → (∀ v ∈ ys', Oth C ((z, k, wl ++ [(0, [])]) :: qs) a0 H' v) → ys'.length = ys.length + 1 → D.nx (sgU p Ma s0 (some (.str z)) (some (.str k)) (some (.ref b)) (some (.int 0)) (some (.ref e)) (some (.ref F)) o9 o10 o11) H') → t D (sgU p Ma s0 (some (.str z)) (some (.str k)) (some (.ref b)) (some (.int 0)) (some (.ref e)) (some (.ref F)) o9 o10 o11) H := by
  refine ⟨_, (ps_expr (pe_bm PySem.F.plainAttrs_list PySem.F.slot_list_append PySem.F.type_list_append mt_append (pv 8) (pa_cons (pe_makeI M (hr.mono (by decide)) (by rfl) passN (pa_cons (pe_op op_cat (pe_lst (pa_cons (pe_tup (pa_cons (pv 3) (pa_cons (pv 4) (pa_cons (pe_op op_catA (pe_slice sl_tup (pv 5) po_none (po_some (pe_un un_neg pe_int))) (pe_tup (pa_cons (pe_tup (pa_cons (pv 6) (pa_cons (pe_op op_catA (pv 7) (pe_tup (pa_cons (pe_tup (pa_cons (pe_tup (pa_cons pe_str (pa_cons (pv 3) pa_nil))) (pa_cons pe_int pa_nil))) pa_nil))) pa_nil))) pa_nil))) pa_nil)))) pa_nil)) (pe_slice sl_list (pv 1) (po_some pe_int) po_none)) (pa_cons (pv 2) pa_nil))) pa_nil))), ?_⟩
  intro D H p Ma s0 b e F xs us ys y z k wl qs a0 o9 o10 o11 h gl gl1 ha hb hus he hF lys hys q
  obtain ⟨c1, c2⟩ := cut_but (xs := us) (v := y)
  have lu : us.length ≤ 100 := by
    have := hus.length
    have := (gl1.each _ (List.mem_cons_self ..)).few
    simp only [List.length_append] at this
    omega
  refine ⟨_, rfl, .inl ⟨rfl, _, SqL.of hF⟩, _, rfl, _, rfl, _, rfl, 1, rfl, -1, rfl, b, _, rfl, SqT.of hb, c2, fun r1 n1 => ?_⟩
  rw [c1]
  have k1 := same_new (o := .tup us) n1
  have g1 : upd H r1 (.tup us) r1 = some (.tup us) := upd_same
  generalize upd H r1 (.tup us) = H1 at k1 g1 ⊢
  refine ⟨_, rfl, _, rfl, _, rfl, (by show 2 ≤ sizeLine; decide), fun u1 m1 => ?_⟩
  have j1 := same_new (o := .tup [V.str "piece", V.str z]) m1
  have i1 : upd H1 u1 (.tup [V.str "piece", V.str z]) u1 = some (.tup [V.str "piece", V.str z]) := upd_same
  generalize upd H1 u1 (.tup [V.str "piece", V.str z]) = J1 at j1 i1 ⊢
  refine ⟨(by show 2 ≤ sizeLine; decide), fun u2 m2 => ?_⟩
  have j2 := same_new (o := .tup [V.ref u1, V.int 7]) m2
  have i2 : upd J1 u2 (.tup [V.ref u1, V.int 7]) u2 = some (.tup [V.ref u1, V.int 7]) := upd_same
  generalize upd J1 u2 (.tup [V.ref u1, V.int 7]) = J2 at j2 i2 ⊢
  refine ⟨(by show 1 ≤ sizeLine; decide), fun u3 m3 => ?_⟩
  have j3 := same_new (o := .tup [V.ref u2]) m3
  have i3 : upd J2 u3 (.tup [V.ref u2]) u3 = some (.tup [V.ref u2]) := upd_same
  generalize upd J2 u3 (.tup [V.ref u2]) = J3 at j3 i3 ⊢
  have SJ3 := k1.trans (j1.trans (j2.trans j3))
  refine catA_go (SJ3 _ _ he) i3 (by simp) (by simp) fun J4 e' j4 i4 => ?_
  refine ⟨(by show 2 ≤ sizeLine; decide), fun t1 n2 => ?_⟩
  have k2 := same_new (o := .tup [V.int 0, V.ref e']) n2
  have g2 : upd J4 t1 (.tup [V.int 0, V.ref e']) t1 = some (.tup [V.int 0, V.ref e']) := upd_same
  generalize upd J4 t1 (.tup [V.int 0, V.ref e']) = H2 at k2 g2 ⊢
  refine ⟨(by show 1 ≤ sizeLine; decide), fun t2 n3 => ?_⟩
  have k3 := same_new (o := .tup [V.ref t1]) n3
  have g3 : upd H2 t2 (.tup [V.ref t1]) t2 = some (.tup [V.ref t1]) := upd_same
  generalize upd H2 t2 (.tup [V.ref t1]) = H3 at k3 g3 ⊢
  have SA := j1.trans (j2.trans (j3.trans (j4.trans k2)))
  refine catA_go (k3 _ _ (SA _ _ g1)) g3 (by simp) (by simp; omega) fun H4 b' k4 g4 => ?_
  refine ⟨(by show 3 ≤ sizeLine; decide), fun t5 n5 => ?_⟩
  have k5 := same_new (o := .tup [V.str z, V.str k, V.ref b']) n5
  have g5 : upd H4 t5 (.tup [V.str z, V.str k, V.ref b']) t5 = some (.tup [V.str z, V.str k, V.ref b']) := upd_same
  generalize upd H4 t5 (.tup [V.str z, V.str k, V.ref b']) = H5 at k5 g5 ⊢
  refine ⟨(by show 1 ≤ sizeLine; decide), fun l6 n6 => ?_⟩
  have k6 := same_new (o := .lst [V.ref t5]) n6
  have g6 : upd H5 l6 (.lst [V.ref t5]) l6 = some (.lst [V.ref t5]) := upd_same
  generalize upd H5 l6 (.lst [V.ref t5]) = H6 at k6 g6 ⊢
  have S6 := k1.trans (SA.trans (k3.trans (k4.trans (k5.trans k6))))
  have h6 := h.same S6
  refine ⟨_, rfl, 1, rfl, Ma, xs, rfl, SqL.of h6.lst, fun l7 n7 => ?_⟩
  rw [cut_1]
  have k7 := same_new (o := .lst (xs.drop 1)) n7
  have g7 : upd H6 l7 (.lst (xs.drop 1)) l7 = some (.lst (xs.drop 1)) := upd_same
  generalize upd H6 l7 (.lst (xs.drop 1)) = H7 at k7 g7 ⊢
  have lx : xs.length = qs.length + 1 := h.each.length
  have few : qs.length + 1 ≤ 10 := gl.few
  refine ⟨l6, l7, [V.ref t5], xs.drop 1, rfl, rfl, k7 _ _ g6, g7, Nat.le_of_lt (small1000 (by simp; omega)), fun l8 n8 => ?_⟩
  have k8 := same_new (o := .lst ([V.ref t5] ++ xs.drop 1)) n8
  have g8 : upd H7 l8 (.lst ([V.ref t5] ++ xs.drop 1)) l8 = some (.lst ([V.ref t5] ++ xs.drop 1)) := upd_same
  generalize upd H7 l8 (.lst ([V.ref t5] ++ xs.drop 1)) = H8 at k8 g8 ⊢
  have S8 := S6.trans (k7.trans k8)
  have h8 := h.same S8
  have r8 := k7.trans k8
  have r6 := k6.trans r8
  have r5 := k5.trans r6
  have r4 := k4.trans r5
  have r3 := k3.trans r4
  have q4 := k2.trans r3
  have q3 := j4.trans q4
  have q2 := j3.trans q3
  have q1 := j2.trans q2
  have new : PieceG H8 (.ref t5) (z, k, wl ++ [(0, [([.inr sPiece, .inr z], 7)])]) := ⟨t5, b', us ++ [.ref t1], rfl, r6 _ _ g5, r5 _ _ g4, eachs_snoc (R := SumP _) ⟨t1, e', [.ref u2], rfl, r3 _ _ g2, q4 _ _ i4, .cons ⟨u2, u1, rfl, q2 _ _ i2, q1 _ _ i1⟩ .nil⟩ (eachs_imp (fun _ _ => sumT_s (TupS.of S8)) hus)⟩
  have each8 : PySem.W.EachIs (PieceG H8) ([V.ref t5] ++ xs.drop 1) ((z, k, wl ++ [(0, [([.inr sPiece, .inr z], 7)])]) :: qs) := by
    have := h8.each
    cases this with
    | cons _ t => exact .cons new t
  refine ⟨_, rfl, fun x dx hx hdx hne => mk_go g8 each8 gl1 h8.st ha hx hdx hne fun H9 s9 hi => ⟨rfl, ?_⟩⟩
  have S9 := S8.trans s9
  have hF9 := S9 _ _ hF
  have eL := ExtL.put (o := .lst (ys ++ [V.ref x])) hF9
  refine ⟨F, ys, .ref x, rfl, rfl, hF9, small1000 (by omega), q _ (ys ++ [.ref x]) (fun c o hc e => by rw [upd_ne hc]; exact S9 _ _ e) upd_same (fun v hv => ?_) (by simp)⟩
  rcases List.mem_append.mp hv with hv | hv
  · exact oth_l ((ExtL.of S9).trans eL) (hys v hv)
  · rw [List.mem_singleton.mp hv]
    refine ⟨x, _, a0, rfl, imgG_l eL hi, .inl fun e => ?_⟩
    have e1 := (List.cons.inj e).1
    have e2 : wl ++ [((0 : Int), ([] : Mul))] = wl ++ [(0, [([.inr sPiece, .inr z], 7)])] := (Prod.mk.inj (Prod.mk.inj e1).2).2
    have e3 := (List.cons.inj (List.append_cancel_left e2)).1
    exact absurd (Prod.mk.inj e3).2 (by simp)
end
end DR

namespace DR
open PySem PySem.Spec PyProof.Rows L2
theorem GL.rev {qs : List Pk} (h : GL qs) : GL qs.reverse := by
  refine ⟨fun q hq => h.each q (List.mem_reverse.mp hq), ?_, by rw [List.length_reverse]; exact h.few, fun q hq w hw u hu => ?_⟩
  · rw [List.map_reverse]
    exact List.pairwise_reverse.mpr (h.nod.imp fun e => e.symm)
  · obtain ⟨z, hz, e⟩ := h.own q (List.mem_reverse.mp hq) w hw u hu
    exact ⟨z, by rw [List.map_reverse]; exact List.mem_reverse.mpr hz, e⟩
theorem codes_mem {qs qs' : List Pk} {a : Str × Int} (h : ∀ q ∈ qs, a ∈ codesP q → q ∈ qs') (ha : a ∈ codesOf qs) : a ∈ codesOf qs' := by
  obtain ⟨q, hq, e⟩ := List.mem_flatMap.mp ha
  exact List.mem_flatMap.mpr ⟨q, h q hq e, e⟩
theorem codesP_nm {q : Pk} {a : Str × Int} (h : a ∈ codesP q) : q.1 = a.1 := by
  unfold codesP at h
  split at h
  · obtain ⟨j, _, rfl⟩ := List.mem_map.mp h
    rfl
  · cases h
theorem GL.kind {ql : List Pk} {z k k' : Str} {ws : List (Int × Mul)} (h : GL (ql ++ [(z, k, ws)])) (hk : k' ∈ kinds2) : GL (ql ++ [(z, k', ws)]) := by
  have en : (ql ++ [(z, k', ws)]).map (·.1) = (ql ++ [(z, k, ws)]).map (·.1) := by simp
  refine ⟨fun q hq => ?_, by rw [en]; exact h.nod, ?_, fun q hq w hw u hu => ?_⟩
  · rcases List.mem_append.mp hq with hq | hq
    · exact h.each q (List.mem_append_left _ hq)
    · rw [List.mem_singleton.mp hq]
      have := h.each (z, k, ws) (List.mem_append_right _ (List.mem_singleton.mpr rfl))
      exact ⟨this.nm, hk, this.few, this.wd⟩
  · have := h.few
    simpa using this
  · rw [en]
    rcases List.mem_append.mp hq with hq | hq
    · exact h.own q (List.mem_append_left _ hq) w hw u hu
    · rw [List.mem_singleton.mp hq] at hw
      exact h.own (z, k, ws) (List.mem_append_right _ (List.mem_singleton.mpr rfl)) w hw u hu
theorem rev_ne {qs : List Pk} (nod : (qs.map (·.1)).Nodup) (l : 2 ≤ qs.length) : qs ≠ qs.reverse := by
  intro e
  have h0 : qs[0]? = some qs[0] := List.getElem?_eq_getElem (by omega)
  have h1 : qs.reverse[0]? = some qs[qs.length - 1] := by
    rw [List.getElem?_reverse (by omega)]
    rw [List.getElem?_eq_getElem (by omega)]
    congr 1
  rw [← e, h0] at h1
  have h2 : qs[0] = qs[qs.length - 1] := Option.some.inj h1
  have pw := List.pairwise_iff_getElem.mp (List.pairwise_map.mp nod) 0 (qs.length - 1) (by omega) (by omega) (by omega)
  exact pw (congrArg (fun q : Pk => q.1) h2)
section
variable {P : Program} {w : World} {K : PySem.W.Frag} {mg : Str → Option Value} {base : Heap} {C CB CW CS f : Addr} {cdv : Value} {A : Around} {outer : List Env} {s : Shared} {H0 : Hp} {E : XK}
theorem un4 (T : Bi mg) (M : MkI P w K mg base C CB CW CS) (hr : Room 12 (XUn P w K mg base f cdv A outer s H0 E).A) : ∃ t, PS (XUn P w K mg base f cdv A outer s H0 E) (oU 4) t ∧
    ∀ (D : Ends) (H : Hp) (p Ma s0 F : Addr) (xs ys : List V) (qs : List Pk) (a0 : Str × Int) (o3 o4 o5 o6 o7 o9 o10 o11 : Option V), Us Ma s0 xs qs a0 H → GL qs → a0 ∈ codesOf qs → H F = some (.lst ys) → Ma ≠ F → ys.length ≤ 10 → (∀ v ∈ ys, Oth C qs a0 H v) →
      (∀ H' ys' o9' o10' o11', (∀ c o, c ≠ F → H c = some o → H' c = some o) → H' F = some (.lst ys') → (∀ v ∈ ys', Oth C qs a0 H' v) → ys'.length ≤ ys.length + 2 → D.nx (sgU p Ma s0 o3 o4 o5 o6 o7 (some (.ref F)) o9' o10' o11') H') → t D (sgU p Ma s0 o3 o4 o5 o6 o7 (some (.ref F)) o9 o10 o11) H := by
  refine ⟨_, (ps_if (pt_cmpR op_gt (pe_callB call_len_seq (by rfl) T.len (by decide +kernel) (pa_cons (pv 1) pa_nil)) pe_int (nomark _)) (pss_cons (ps_expr (pe_bm PySem.F.plainAttrs_list PySem.F.slot_list_append PySem.F.type_list_append mt_append (pv 8) (pa_cons (pe_makeI M (hr.mono (by decide)) (by rfl) passN (pa_cons (pe_revL (pv 1)) (pa_cons (pv 2) pa_nil))) pa_nil)))
      (pss_cons (ps_asg (pe_ix ix_list (pv 1) (pe_un un_neg pe_int) (fun _ _ => rfl)) (pg_tup rfl (pgs_cons (pg_name (i := 9) scUnl.nd rfl (.inl rfl)) (pgs_cons (pg_name (i := 10) scUnl.nd rfl (.inl rfl)) (pgs_cons (pg_name (i := 11) scUnl.nd rfl (.inl rfl)) pgs_nil)))))
      (pss_one (ps_if (pt_cmpR op_ne (pv 9) (pe_ix ix_tup (pv 2) pe_int (fun _ _ => rfl)) (nomark _)) (pss_one (ps_expr (pe_bm PySem.F.plainAttrs_list PySem.F.slot_list_append PySem.F.type_list_append mt_append (pv 8) (pa_cons (pe_makeI M (hr.mono (by decide)) (by rfl) passN (pa_cons (pe_op op_cat (pe_slice sl_list (pv 1) po_none (po_some (pe_un un_neg pe_int))) (pe_lst (pa_cons (pe_tup (pa_cons (pv 9) (pa_cons (pe_ifExp (pt_cmpR op_eq (pv 10) pe_str (nomark _)) pe_str pe_str) (pa_cons (pv 11) pa_nil)))) pa_nil))) (pa_cons (pv 2) pa_nil))) pa_nil)))) pss_nil)))) pss_nil), ?_⟩
  intro D H p Ma s0 F xs ys qs a0 o3 o4 o5 o6 o7 o9 o10 o11 h gl ha hF MF lys hys q
  have lx : xs.length = qs.length := h.each.length
  have few := gl.few
  refine ⟨_, rfl, Ma, xs, rfl, .inl (SqL.of h.lst), _, _, rfl, rfl, _, rfl, ?_⟩
  by_cases l2 : (xs.length : Int) > 1
  · rw [decide_eq_true l2]
    refine iteT ⟨_, rfl, .inl ⟨rfl, _, SqL.of hF⟩, _, rfl, Ma, xs, rfl, SqL.of h.lst, fun r1 n1 => ?_⟩
    have k1 := same_new (o := .lst xs.reverse) n1
    have g1 : upd H r1 (.lst xs.reverse) r1 = some (.lst xs.reverse) := upd_same
    generalize upd H r1 (.lst xs.reverse) = H1 at k1 g1 ⊢
    have h1 := h.same k1
    refine ⟨_, rfl, fun x dx hx hdx hne => mk_go g1 (each_rev h1.each) gl.rev h1.st (codes_mem (fun q hq _ => List.mem_reverse.mpr hq) ha) hx hdx hne fun H2 s2 hi => ⟨rfl, ?_⟩⟩
    have S2 := k1.trans s2
    have hF2 := S2 _ _ hF
    have eL := ExtL.put (o := .lst (ys ++ [V.ref x])) hF2
    refine ⟨F, ys, .ref x, rfl, rfl, hF2, small1000 (by omega), ?_⟩
    have kF : ∀ c o, c ≠ F → H c = some o → upd H2 F (.lst (ys ++ [V.ref x])) c = some o := fun c o hc e => by rw [upd_ne hc]; exact S2 _ _ e
    have hF3 : upd H2 F (.lst (ys ++ [V.ref x])) F = some (.lst (ys ++ [V.ref x])) := upd_same
    have hO3 : ∀ v ∈ ys ++ [V.ref x], Oth C qs a0 (upd H2 F (.lst (ys ++ [V.ref x]))) v := fun v hv => by
      rcases List.mem_append.mp hv with hv | hv
      · exact oth_l ((ExtL.of S2).trans eL) (hys v hv)
      · rw [List.mem_singleton.mp hv]
        exact ⟨x, _, a0, rfl, imgG_l eL hi, .inl (rev_ne gl.nod (by omega))⟩
    have h3 : Us Ma s0 xs qs a0 (upd H2 F (.lst (ys ++ [V.ref x]))) := by
      have h2 := h.same S2
      exact ⟨by rw [upd_ne MF]; exact h2.lst, eachs_imp (fun _ _ => pieceG_s eL.tup) h2.each, eL.tup _ _ h2.st⟩
    generalize upd H2 F (.lst (ys ++ [V.ref x])) = H3 at kF hF3 hO3 h3 ⊢
    obtain ⟨ql, qz, eq⟩ : ∃ ql qz, qs = ql ++ [qz] := ⟨qs.dropLast, qs.getLast (by intro z; rw [z] at lx; rw [lx] at l2; exact absurd l2 (by decide)), (List.dropLast_concat_getLast _).symm⟩
    subst eq
    obtain ⟨zq, kq, wq⟩ := qz
    obtain ⟨us, y, rfl, hus, hy⟩ := each_unsnoc h3.each
    obtain ⟨t, b, ws, rfl, ht, hb, hws⟩ := hy
    have hs3 := h3.st
    refine ⟨_, rfl, _, rfl, Ma, _, _, _, rfl, rfl, SqL.of h3.lst, at_last, t, _, rfl, SqT.of ht, rfl, _, _, rfl, _, _, rfl, _, _, rfl, rfl, ?_⟩
    refine ⟨_, rfl, _, rfl, s0, _, _, _, rfl, rfl, SqT.of hs3, at_of (i := 0) rfl, rfl, _, rfl, ?_⟩
    by_cases ne : zq = a0.1
    · rw [show (!decide (V.str zq = V.str a0.1)) = false from by simp [ne]]
      exact iteF (q H3 _ _ _ _ kF hF3 hO3 (by simp))
    · rw [show (!decide (V.str zq = V.str a0.1)) = true from by simp [ne]]
      have cb : cutV (us ++ [V.ref t]) none (some (-1)) = us := (cut_but).1
      refine iteT ⟨_, rfl, .inl ⟨rfl, _, SqL.of hF3⟩, _, rfl, 1, rfl, -1, rfl, Ma, _, rfl, SqL.of h3.lst, fun r2 n2 => ?_⟩
      rw [cb]
      have k4 := same_new (o := .lst us) n2
      have g4 : upd H3 r2 (.lst us) r2 = some (.lst us) := upd_same
      generalize upd H3 r2 (.lst us) = H4 at k4 g4 ⊢
      have main : ∀ k' : Str, k' ∈ kinds2 → k' ≠ kq → 3 ≤ sizeLine ∧ ∀ t3, H4 t3 = none → 1 ≤ sizeLine ∧ ∀ l4, upd H4 t3 (.tup [V.str zq, V.str k', V.ref b]) l4 = none → rCat (.ref r2) (.ref l4) (upd (upd H4 t3 (.tup [V.str zq, V.str k', V.ref b])) l4 (.lst [V.ref t3])) fun x H2 => tMake C (spImg K C CB CW CS) [] E0 (tCons (tC x) (tCons (tVar 2) tNil)) (sgU p Ma s0 o3 o4 o5 o6 o7 (some (.ref F)) (some (.str zq)) (some (.str kq)) (some (.ref b))) H2 fun x H2 => rAppend (.ref F) [x] H2 fun x H1 => D.nx (sgU p Ma s0 o3 o4 o5 o6 o7 (some (.ref F)) (some (.str zq)) (some (.str kq)) (some (.ref b))) H1 := by
        intro k' hk' nk
        refine ⟨(by decide), fun t3 n3 => ⟨(by decide), fun l4 n4 => ?_⟩⟩
        have k5 := same_new (o := .tup [V.str zq, V.str k', V.ref b]) n3
        have g5 : upd H4 t3 (.tup [V.str zq, V.str k', V.ref b]) t3 = some (.tup [V.str zq, V.str k', V.ref b]) := upd_same
        generalize upd H4 t3 (.tup [V.str zq, V.str k', V.ref b]) = H5 at k5 g5 n4 ⊢
        have k6 := same_new (o := .lst [V.ref t3]) n4
        have g6 : upd H5 l4 (.lst [V.ref t3]) l4 = some (.lst [V.ref t3]) := upd_same
        generalize upd H5 l4 (.lst [V.ref t3]) = H6 at k6 g6 ⊢
        have lu : us.length + 1 ≤ 10 := by
          have := hus.length
          simp only [List.length_append, List.length_singleton] at few
          omega
        refine ⟨r2, l4, us, [V.ref t3], rfl, rfl, k6 _ _ (k5 _ _ g4), g6, Nat.le_of_lt (small1000 (by simp; omega)), fun l5 n5 => ?_⟩
        have k7 := same_new (o := .lst (us ++ [V.ref t3])) n5
        have g7 : upd H6 l5 (.lst (us ++ [V.ref t3])) l5 = some (.lst (us ++ [V.ref t3])) := upd_same
        generalize upd H6 l5 (.lst (us ++ [V.ref t3])) = H7 at k7 g7 ⊢
        have S7 := k4.trans (k5.trans (k6.trans k7))
        have each7 : PySem.W.EachIs (PieceG H7) (us ++ [V.ref t3]) (ql ++ [(zq, k', wq)]) := eachs_snoc (R := PieceG _) (u := (zq, k', wq)) ⟨t3, b, ws, rfl, k7 _ _ (k6 _ _ g5), S7 _ _ hb, eachs_imp (fun _ _ => sumT_s (TupS.of S7)) hws⟩ (eachs_imp (fun _ _ => pieceG_s (TupS.of S7)) hus)
        have ha' : a0 ∈ codesOf (ql ++ [(zq, k', wq)]) := codes_mem (fun q hq e => by
          rcases List.mem_append.mp hq with hq | hq
          · exact List.mem_append_left _ hq
          · rw [List.mem_singleton.mp hq] at e
            exact absurd (codesP_nm e) ne) ha
        refine ⟨_, rfl, fun x2 dx2 hx2 hdx2 hne2 => mk_go g7 each7 (gl.kind hk') (S7 _ _ hs3) ha' hx2 hdx2 hne2 fun H8 s8 hi8 => ⟨rfl, ?_⟩⟩
        have S8 := S7.trans s8
        have hF8 := S8 _ _ hF3
        have eL8 := ExtL.put (o := .lst ((ys ++ [V.ref x]) ++ [V.ref x2])) hF8
        refine ⟨F, _, .ref x2, rfl, rfl, hF8, small1000 (by simp; omega), q _ _ _ _ _ (fun c o hc e => by rw [upd_ne hc]; exact S8 _ _ (kF c o hc e)) upd_same (fun v hv => ?_) (by simp)⟩
        rcases List.mem_append.mp hv with hv | hv
        · exact oth_l ((ExtL.of S8).trans eL8) (hO3 v hv)
        · rw [List.mem_singleton.mp hv]
          refine ⟨x2, _, a0, rfl, imgG_l eL8 hi8, .inl fun e => ?_⟩
          have e1 := (List.cons.inj (List.append_cancel_left e)).1
          exact nk (Prod.mk.inj (Prod.mk.inj e1).2).1.symm
      have hk := (gl.each (zq, kq, wq) (List.mem_append_right _ (List.mem_singleton.mpr rfl))).kd
      refine ⟨_, rfl, _, rfl, rfl, _, rfl, ?_⟩
      by_cases kc : kq = "code"
      · rw [show decide (V.str kq = V.str "code") = true from by simp [kc]]
        exact iteT ⟨_, rfl, main "data" (by decide +kernel) (by rw [kc]; decide +kernel)⟩
      · rw [show decide (V.str kq = V.str "code") = false from by simp [kc]]
        exact iteF ⟨_, rfl, main "code" (by decide +kernel) (fun z => kc z.symm)⟩
  · rw [decide_eq_false l2]
    exact iteF (q H ys _ _ _ (fun _ _ _ e => e) hF hys (by omega))
def spUnl (K : PySem.W.Frag) (C : Addr) : Sp := fun vs H Q _ => ∃ (p M s0 : Addr) (xs : List V) (qs : List Pk) (a0 : Str × Int) (z k : Str) (wl : List (Int × Mul)), vs = [.ref p, .ref M, .ref s0] ∧ Us M s0 xs ((z, k, wl ++ [(0, [])]) :: qs) a0 H ∧ GL ((z, k, wl ++ [(0, [])]) :: qs) ∧ a0 ∈ codesOf ((z, k, wl ++ [(0, [])]) :: qs) ∧
  ∀ F ys H', Same H H' → H F = none → H' F = some (.lst ys) → (∀ v ∈ ys, Oth C ((z, k, wl ++ [(0, [])]) :: qs) a0 H' v) → ys.length ≤ 4 → Q (.ref F) H'
theorem GL.head {z k : Str} {wl : List (Int × Mul)} {qs : List Pk} {w : Int × Mul} (h : GL ((z, k, wl ++ [(0, [])]) :: qs)) (hw : WdOk w.1 w.2) (own : ∀ u ∈ w.2.map (·.1), u = [.inr sPiece, .inr z]) : GL ((z, k, wl ++ [w]) :: qs) := by
  have h0 := h.each _ (List.mem_cons_self ..)
  have hz : z ∈ ((z, k, wl ++ [w]) :: qs).map (·.1) := List.mem_cons_self ..
  refine ⟨fun q hq => ?_, h.nod, h.few, fun q hq w' hw' u hu => ?_⟩
  · rcases List.mem_cons.mp hq with rfl | hq
    · refine ⟨h0.nm, h0.kd, ?_, fun w' hw' => ?_⟩
      · have := h0.few
        simp only [List.length_append, List.length_singleton] at this ⊢
        exact this
      · rcases List.mem_append.mp hw' with hw' | hw'
        · exact h0.wd w' (List.mem_append_left _ hw')
        · rw [List.mem_singleton.mp hw']
          exact hw
    · exact h.each q (List.mem_cons_of_mem _ hq)
  · rcases List.mem_cons.mp hq with rfl | hq
    · rcases List.mem_append.mp hw' with hw' | hw'
      · exact h.own _ (List.mem_cons_self ..) w' (List.mem_append_left _ hw') u hu
      · rw [List.mem_singleton.mp hw'] at hu
        exact ⟨z, hz, own u hu⟩
    · exact h.own q (List.mem_cons_of_mem _ hq) w' hw' u hu
theorem codes_head {z k : Str} {wl : List (Int × Mul)} {qs : List Pk} {w w' : Int × Mul} {a : Str × Int} (h : a ∈ codesOf ((z, k, wl ++ [w]) :: qs)) : a ∈ codesOf ((z, k, wl ++ [w']) :: qs) := by
  obtain ⟨q, hq, e⟩ := List.mem_flatMap.mp h
  rcases List.mem_cons.mp hq with rfl | hq
  · refine List.mem_flatMap.mpr ⟨_, List.mem_cons_self .., ?_⟩
    simpa [codesP] using e
  · exact List.mem_flatMap.mpr ⟨q, List.mem_cons_of_mem _ hq, e⟩
theorem ok_unl {fd : FuncData} (F : Fun K "_law_unlike" "_law_unlike" sUnl f fd) (T : Bi mg) (M : MkI P w K mg base C CB CW CS) : FnOk P w K mg base CX0 13 f fd ["pool", "pieces", "start"] (spUnl K C) := by
  refine F.ok scUnl (fun vs H Q E h => ?_) (fun cdv A outer s H vs Q E hr h => ?_)
  · obtain ⟨p, Ma, s0, xs, qs, a0, z, k, wl, rfl, _⟩ := h
    rfl
  · obtain ⟨p, Ma, s0, xs, qs, a0, z, k, wl, rfl, h, gl, ha, q⟩ := h
    obtain ⟨t0, h0, q0⟩ := un0 (P := P) (w := w) (K := K) (mg := mg) (base := base) (f := f) (cdv := cdv) (A := A) (outer := outer) (s := s) (H0 := H) (E := E)
    obtain ⟨t1, h1, q1⟩ := un1 (P := P) (w := w) (K := K) (mg := mg) (base := base) (f := f) (cdv := cdv) (A := A) (outer := outer) (s := s) (H0 := H) (E := E)
    obtain ⟨t2, h2, q2⟩ := un2 (f := f) (cdv := cdv) (A := A) (outer := outer) (s := s) (H0 := H) (E := E) M hr
    obtain ⟨t3, h3, q3⟩ := un3 (f := f) (cdv := cdv) (A := A) (outer := outer) (s := s) (H0 := H) (E := E) M hr
    obtain ⟨t4, h4, q4⟩ := un4 (f := f) (cdv := cdv) (A := A) (outer := outer) (s := s) (H0 := H) (E := E) T M hr
    refine ⟨_, pss_cons h0 (pss_cons h1 (pss_cons h2 (pss_cons h3 (pss_cons h4 (pss_one (ps_ret (pv 8))))))), ?_⟩
    have nz := (gl.each _ (List.mem_cons_self ..)).nm
    refine q0 _ H p Ma s0 xs _ qs a0 _ _ _ _ _ _ _ _ _ h fun b ws hb hws => ?_
    refine q1 _ H p Ma s0 b ws wl _ _ _ _ _ _ _ _ hb hws fun us y e ew hus he => ?_
    subst ew
    refine q2 _ H p Ma s0 b e xs us y z k wl qs a0 _ _ _ _ h gl (gl.head (w := (1, [])) (wd_bare (by unfold Sz; decide)) (fun u hu => by cases hu)) (codes_head ha) hb hus he fun H2 F2 ys2 s2 hF0 hF2 hy2 l2 => ?_
    have uss := h.same s2
    refine q3 _ H2 p Ma s0 b e F2 xs us ys2 y z k wl qs a0 _ _ _ uss gl (gl.head (w := (0, [([.inr sPiece, .inr z], 7)])) (wd_one nz) (fun u hu => by
      rw [List.mem_singleton.mp hu])) (codes_head ha) (s2 _ _ hb) (eachs_imp (fun _ _ => sumT_s (TupS.of s2)) hus) (s2 _ _ he) hF2 (by omega) hy2 fun H3 ys3 k3 hF3 hy3 l3 => ?_
    have s3 : Same H H3 := fun c o e => k3 _ _ (ne_of_none e hF0) (s2 _ _ e)
    refine q4 _ H3 p Ma s0 F2 xs ys3 _ a0 _ _ _ _ _ _ _ _ (h.same s3) gl ha hF3 (ne_of_none h.lst hF0) (by omega) hy3 fun H4 ys4 _ _ _ k4 hF4 hy4 l4 => ?_
    exact ⟨_, rfl, q F2 ys4 H4 (fun c o e => k4 _ _ (ne_of_none e hF0) (s3 _ _ e)) hF0 hF4 hy4 (by omega)⟩
end
end DR

namespace DR
open PySem PySem.Spec PyProof.Rows L2
/-! ### _law_refused_right: what stands -/
/-- a heap without these -/
def wx (B : List Addr) (H : Hp) : Hp := fun b => if b ∈ B then none else H b
theorem wx_in {B : List Addr} {H : Hp} {b : Addr} (h : b ∈ B) : wx B H b = none := if_pos h
theorem wx_out {B : List Addr} {H : Hp} {b : Addr} (h : b ∉ B) : wx B H b = H b := if_neg h
theorem wx_sub {B : List Addr} {H : Hp} : Same (wx B H) H := fun b x e => by
  by_cases h : b ∈ B
  · rw [wx_in h] at e; cases e
  · rw [wx_out h] at e; exact e
/-- all stays but these and the tables -/
def KpX (B : List Addr) (H H' : Hp) : Prop := ∀ b o, b ∉ B → H b = some o → (∀ ps, o ≠ .tbl ps) → H' b = some o
theorem KpX.of {B : List Addr} {H H' : Hp} (e : Same H H') : KpX B H H' := fun b o _ h _ => e b o h
theorem KpX.ofN {B : List Addr} {H H' : Hp} (e : LamX.ExtN H H') : KpX B H H' := fun b o _ h n => e b o h n
theorem KpX.trans {B : List Addr} {H H1 H2 : Hp} (a : KpX B H H1) (b : KpX B H1 H2) : KpX B H H2 := fun c o hc h n => b c o hc (a c o hc h n) n
theorem KpX.put {B : List Addr} {H : Hp} {b : Addr} {o : HO} (h : b ∈ B) : KpX B H (upd H b o) := fun c x hc e _ => by
  rw [upd_ne (fun z => hc (by rw [z]; exact h))]
  exact e
theorem KpX.dr {B : List Addr} {H H' : Hp} {p : Addr} (h : p ∈ B) (d : Dr p H H') : KpX B H H' := fun c x hc e _ => d c x (fun z => hc (by rw [z]; exact h)) e
theorem KpX.ext {B : List Addr} {H H' : Hp} (k : KpX B H H') : LamX.ExtN (wx B H) (wx B H') := fun b o e n => by
  by_cases h : b ∈ B
  · rw [wx_in h] at e; cases e
  · rw [wx_out h] at e ⊢
    exact k b o h e n
/-- one more, that is new -/
theorem KpX.more {B : List Addr} {H H' : Hp} {r : Addr} (hr : H r = none) (k : KpX B H H') : LamX.ExtN (wx B H) (wx (r :: B) H') := fun b o e n => by
  by_cases h : b ∈ B
  · rw [wx_in h] at e; cases e
  · rw [wx_out h] at e
    have hb : b ∉ r :: B := fun z => by
      rcases List.mem_cons.mp z with z | z
      · rw [z, hr] at e; cases e
      · exact h z
    rw [wx_out hb]
    exact k b o h e n
theorem tabs_l {T : List (Addr × Str)} {H H' : Hp} (t : LamX.Tabs T H) (e : ExtL H H') : LamX.Tabs T H' := fun p hp => by
  obtain ⟨tb, h1, h2, h3⟩ := t p hp
  refine ⟨tb, e _ _ h1 (by intro x z; cases z), h2, fun p' cv' q' => ?_⟩
  obtain ⟨c0, z1, z2⟩ := h3 p' cv' q'
  exact ⟨c0, z1, e _ _ z2 (by intro x z; cases z)⟩
theorem extL_dr {H H' : Hp} {p : Addr} {c : Nat} (hP : Pool H p c) (d : Dr p H H') : ExtL H H' := fun b o e n => d b o (fun z => by
  obtain ⟨_, _, _, e2, _⟩ := hP.ex
  rw [z, e2] at e
  exact n _ (Option.some.inj e).symm) e
/-- what stands whatever is drawn and found -/
structure Rx (G0 : Hp) (M NL : Addr) (xs : List V) (qs : List Pk) (G : Hp) : Prop where
  kp : LamX.ExtN G0 G
  lst : G M = some (.lst xs)
  each : PySem.W.EachIs (PieceG G) xs qs
  nms : G NL = some (.lst ((qs.map (·.1)).map V.str))
theorem Rx.ext {G0 : Hp} {M NL : Addr} {xs : List V} {qs : List Pk} {G G' : Hp} (h : Rx G0 M NL xs qs G) (e : LamX.ExtN G G') : Rx G0 M NL xs qs G' :=
  ⟨h.kp.trans e, e _ _ h.lst (by intro x z; cases z), eachs_imp (fun _ _ => pieceG_s (ext_tup e)) h.each, e _ _ h.nms (by intro x z; cases z)⟩
structure Ry (G0 : Hp) (T' : List (Addr × Str)) (B : List Addr) (p M NL : Addr) (xs : List V) (qs : List Pk) (c : Nat) (H : Hp) : Prop where
  tabs : LamX.Tabs T' H
  pool : Pool H p c
  pB : p ∈ B
  bl : ∀ b ∈ B, ∃ ys, H b = some (.lst ys)
  rx : Rx G0 M NL xs qs (wx B H)
theorem pool_ext {H H' : Hp} {p : Addr} {c : Nat} (e : LamX.ExtN H H') (h : Pool H p c) : Pool H' p c := by
  obtain ⟨a, b, z, h1, h2⟩ := h.ex
  exact ⟨a, b, z, e _ _ h1 (by intro x z; cases z), h2⟩
theorem Ry.ext {G0 : Hp} {T' : List (Addr × Str)} {B : List Addr} {p M NL : Addr} {xs : List V} {qs : List Pk} {c : Nat} {H H' : Hp} (h : Ry G0 T' B p M NL xs qs c H) (e : LamX.ExtN H H') (t : LamX.Tabs T' H') : Ry G0 T' B p M NL xs qs c H' :=
  ⟨t, pool_ext e h.pool, h.pB, fun b hb => (let ⟨ys, y⟩ := h.bl b hb; ⟨ys, e _ _ y (by intro x z; cases z)⟩), h.rx.ext (KpX.ext (.ofN e))⟩
theorem Ry.same {G0 : Hp} {T' : List (Addr × Str)} {B : List Addr} {p M NL : Addr} {xs : List V} {qs : List Pk} {c : Nat} {H H' : Hp} (h : Ry G0 T' B p M NL xs qs c H) (e : Same H H') : Ry G0 T' B p M NL xs qs c H' := h.ext (.of e) (h.tabs.ext e)
theorem Ry.dr {G0 : Hp} {T' : List (Addr × Str)} {B : List Addr} {p M NL : Addr} {xs : List V} {qs : List Pk} {c c' : Nat} {H H' : Hp} (h : Ry G0 T' B p M NL xs qs c H) (d : Dr p H H') (hP : Pool H' p c') : Ry G0 T' B p M NL xs qs c' H' :=
  ⟨tabs_l h.tabs (extL_dr h.pool d), hP, h.pB, fun b hb => by
    obtain ⟨ys, y⟩ := h.bl b hb
    by_cases z : b = p
    · obtain ⟨a1, a2, a3, e2, _⟩ := hP.ex
      exact ⟨_, by rw [z]; exact e2⟩
    · exact ⟨ys, d _ _ z y⟩, h.rx.ext (KpX.ext (.dr h.pB d))⟩
theorem Ry.put {G0 : Hp} {T' : List (Addr × Str)} {B : List Addr} {p M NL r : Addr} {xs ys zs : List V} {qs : List Pk} {c : Nat} {H : Hp} (h : Ry G0 T' B p M NL xs qs c H) (hr : r ∈ B) (rp : r ≠ p) (e : H r = some (.lst ys)) : Ry G0 T' B p M NL xs qs c (upd H r (.lst zs)) :=
  ⟨tabs_l h.tabs (ExtL.put e), pool_put h.pool rp.symm, h.pB, fun b hb => by
    obtain ⟨ys', y⟩ := h.bl b hb
    by_cases z : b = r
    · exact ⟨_, by rw [z]; exact upd_same⟩
    · exact ⟨ys', by rw [upd_ne z]; exact y⟩, h.rx.ext (KpX.ext (.put hr))⟩
theorem Ry.more {G0 : Hp} {T' : List (Addr × Str)} {B : List Addr} {p M NL r : Addr} {xs : List V} {qs : List Pk} {c : Nat} {H : Hp} {zs : List V} (h : Ry G0 T' B p M NL xs qs c H) (hr : H r = none) : Ry G0 T' (r :: B) p M NL xs qs c (upd H r (.lst zs)) :=
  ⟨h.tabs.ext (same_new hr), pool_new h.pool hr, List.mem_cons_of_mem _ h.pB, fun b hb => (by
    rcases List.mem_cons.mp hb with z | z
    · exact ⟨_, by rw [z]; exact upd_same⟩
    · obtain ⟨ys, y⟩ := h.bl b z
      exact ⟨ys, same_new hr _ _ y⟩), h.rx.ext (KpX.more hr (.of (same_new hr)))⟩
theorem Ry.lst {G0 : Hp} {T' : List (Addr × Str)} {B : List Addr} {p M NL : Addr} {xs : List V} {qs : List Pk} {c : Nat} {H : Hp} (h : Ry G0 T' B p M NL xs qs c H) : H M = some (.lst xs) := wx_sub _ _ h.rx.lst
theorem Ry.each {G0 : Hp} {T' : List (Addr × Str)} {B : List Addr} {p M NL : Addr} {xs : List V} {qs : List Pk} {c : Nat} {H : Hp} (h : Ry G0 T' B p M NL xs qs c H) : PySem.W.EachIs (PieceG H) xs qs := eachs_imp (fun _ _ => pieceG_s (TupS.of wx_sub)) h.rx.each
theorem Ry.nms {G0 : Hp} {T' : List (Addr × Str)} {B : List Addr} {p M NL : Addr} {xs : List V} {qs : List Pk} {c : Nat} {H : Hp} (h : Ry G0 T' B p M NL xs qs c H) : H NL = some (.lst ((qs.map (·.1)).map V.str)) := wx_sub _ _ h.rx.nms
theorem dp_ext {K : PySem.W.Frag} {H H' : Hp} (e : LamX.ExtN H H') {v : V} {d : PyData} (h : Dp K H v d) : Dp K H' v d := by
  have := th_ext e (.dat h)
  cases this with
  | dat h => exact h
  | dct h' => cases h
/-! ### what was found and what is due: lists of data -/
structure Fd (K : PySem.W.Frag) (B : List Addr) (r : Addr) (ds : List PyData) (H : Hp) : Prop where
  ex : ∃ ys, H r = some (.lst ys) ∧ DpAll K (wx B H) ys ds
theorem dps_ext {K : PySem.W.Frag} {H H' : Hp} (e : LamX.ExtN H H') : ∀ {vs : List V} {ds : List PyData}, DpAll K H vs ds → DpAll K H' vs ds
  | _, _, .nil => .nil
  | _, _, .cons h t => .cons (dp_ext e h) (dps_ext e t)
theorem Fd.ext {K : PySem.W.Frag} {B : List Addr} {r : Addr} {ds : List PyData} {H H' : Hp} (h : Fd K B r ds H) (e : LamX.ExtN H H') : Fd K B r ds H' := by
  obtain ⟨ys, h1, h2⟩ := h.ex
  exact ⟨ys, e _ _ h1 (by intro x z; cases z), dps_ext (KpX.ext (.ofN e)) h2⟩
theorem Fd.dr {K : PySem.W.Frag} {B : List Addr} {r p : Addr} {ds : List PyData} {H H' : Hp} (h : Fd K B r ds H) (rp : r ≠ p) (hp : p ∈ B) (d : Dr p H H') : Fd K B r ds H' := by
  obtain ⟨ys, h1, h2⟩ := h.ex
  exact ⟨ys, d _ _ rp h1, dps_ext (KpX.ext (.dr hp d)) h2⟩
theorem Fd.put {K : PySem.W.Frag} {B : List Addr} {r b : Addr} {ds : List PyData} {H : Hp} {o : HO} (h : Fd K B r ds H) (hb : b ∈ B) (rb : r ≠ b) : Fd K B r ds (upd H b o) := by
  obtain ⟨ys, h1, h2⟩ := h.ex
  exact ⟨ys, by rw [upd_ne rb]; exact h1, dps_ext (KpX.ext (.put hb)) h2⟩
theorem Fd.app {K : PySem.W.Frag} {B : List Addr} {r : Addr} {ds : List PyData} {d : PyData} {v : V} {ys : List V} {H : Hp} (hr : r ∈ B) (h1 : H r = some (.lst ys)) (h2 : DpAll K (wx B H) ys ds) (hv : Dp K (wx B H) v d) : Fd K B r (ds ++ [d]) (upd H r (.lst (ys ++ [v]))) :=
  ⟨ys ++ [v], upd_same, dps_snoc (dp_ext (KpX.ext (.put hr)) hv) (dps_ext (KpX.ext (.put hr)) h2)⟩
theorem Fd.more {K : PySem.W.Frag} {B : List Addr} {r b : Addr} {ds : List PyData} {H : Hp} {o : HO} (h : Fd K B r ds H) (hb : H b = none) : Fd K (b :: B) r ds (upd H b o) := by
  obtain ⟨ys, h1, h2⟩ := h.ex
  exact ⟨ys, same_new hb _ _ h1, dps_ext (KpX.more hb (.of (same_new hb))) h2⟩
theorem Fd.same {K : PySem.W.Frag} {B : List Addr} {r : Addr} {ds : List PyData} {H H' : Hp} (h : Fd K B r ds H) (e : Same H H') : Fd K B r ds H' := h.ext (.of e)
end DR

namespace DR
open PySem PySem.Spec PyProof.Rows L2
/-! ### expressions that make data apart from what changes -/
def BIn (B : List Addr) (H : Hp) : Prop := ∀ b ∈ B, H b ≠ none
theorem BIn.same {B : List Addr} {H H' : Hp} (h : BIn B H) (e : Same H H') : BIn B H' := fun b hb z => by
  cases y : H b with
  | none => exact h b hb y
  | some o => rw [e _ _ y] at z; cases z
theorem BIn.out {B : List Addr} {H : Hp} {b : Addr} (h : BIn B H) (e : H b = none) : b ∉ B := fun z => h b z e
theorem wx_mono {B : List Addr} {H H' : Hp} (e : Same H H') : Same (wx B H) (wx B H') := fun b x h => by
  by_cases hb : b ∈ B
  · rw [wx_in hb] at h; cases h
  · rw [wx_out hb] at h ⊢
    exact e b x h
theorem wx_new {B : List Addr} {H : Hp} {p : Addr} {o : HO} (h : BIn B H) (hp : H p = none) : wx B (upd H p o) p = some o := by
  rw [wx_out (h.out hp)]
  exact upd_same
theorem Ry.bin {G0 : Hp} {T' : List (Addr × Str)} {B : List Addr} {p M NL : Addr} {xs : List V} {qs : List Pk} {c : Nat} {H : Hp} (h : Ry G0 T' B p M NL xs qs c H) : BIn B H := fun b hb z => by
  obtain ⟨ys, y⟩ := h.bl b hb
  rw [y] at z
  cases z
section
variable {K : PySem.W.Frag} {B : List Addr} {σ : L2.St} {F : Hp → Prop}
def MkX (K : PySem.W.Frag) (B : List Addr) (σ : L2.St) (F : Hp → Prop) (te : TE) (d : PyData) : Prop := ∀ H (Q : VK), F H → BIn B H → (∀ H' v, Same H H' → Dp K (wx B H') v d → Q v H') → te σ H Q
def MkXs (K : PySem.W.Frag) (B : List Addr) (σ : L2.St) (F : Hp → Prop) (t : TA) (ds : List PyData) : Prop := ∀ H (Q : List V → Hp → Prop), F H → BIn B H → (∀ H' vs, Same H H' → DpAll K (wx B H') vs ds → Q vs H') → t σ H Q
def MkY (K : PySem.W.Frag) (B : List Addr) (σ : L2.St) (F : Hp → Prop) (te : TE) (d : PyData) : Prop := ∀ H (Q : VK), F H → BIn B H → (∀ H' v, Same H H' → Th K (wx B H') v d → Q v H') → te σ H Q
def MkYs (K : PySem.W.Frag) (B : List Addr) (σ : L2.St) (F : Hp → Prop) (t : TA) (ds : List PyData) : Prop := ∀ H (Q : List V → Hp → Prop), F H → BIn B H → (∀ H' vs, Same H H' → PySem.W.EachIs (Th K (wx B H')) vs ds → Q vs H') → t σ H Q
theorem mx_non : MkX K B σ F (tC .non) .none := fun H Q _ _ q => q H _ (Same.refl H) .non
theorem mx_bl {b : Bool} : MkX K B σ F (tC (.bl b)) (.bool b) := fun H Q _ _ q => q H _ (Same.refl H) (.bl b)
theorem mx_int {i : Int} : MkX K B σ F (tC (.int i)) (.int i) := fun H Q _ _ q => q H _ (Same.refl H) (.int i)
theorem mx_str {z : Str} : MkX K B σ F (tC (.str z)) (.str z) := fun H Q _ _ q => q H _ (Same.refl H) (.str z)
theorem mx_neg {i : Int} : MkX K B σ F (tUn (rU fun i => .int (-i)) (tC (.int i))) (.int (-i)) := fun H Q _ _ q => ⟨i, rfl, q H _ (Same.refl H) (.int _)⟩
theorem mx_var {i : Nat} {v : V} {d : PyData} (e : σ[i]? = some (some v)) (h : ∀ H, F H → Dp K (wx B H) v d) : MkX K B σ F (tVar i) d := fun H Q hF _ q => ⟨_, e, q H _ (Same.refl H) (h H hF)⟩
theorem mxs_nil : MkXs K B σ F tNil [] := fun H Q _ _ q => q H [] (Same.refl H) .nil
theorem mxs_cons (st : ∀ H H', Same H H' → F H → F H') {te : TE} {t : TA} {d : PyData} {ds : List PyData} (h : MkX K B σ F te d) (hs : MkXs K B σ F t ds) : MkXs K B σ F (tCons te t) (d :: ds) := fun H Q hF hB q => h H _ hF hB fun H1 v s1 hv => hs H1 _ (st _ _ s1 hF) (hB.same s1) fun H2 vs s2 hvs => q H2 _ (s1.trans s2) (.cons (dp_same (wx_mono s2) hv) hvs)
theorem dps_len2 {G : Hp} : ∀ {vs : List V} {ds : List PyData}, DpAll K G vs ds → vs.length = ds.length
  | _, _, .nil => rfl
  | _, _, .cons _ t => by rw [List.length_cons, List.length_cons, dps_len2 t]
theorem mx_tup {t : TA} {ds : List PyData} (h : MkXs K B σ F t ds) (l : ds.length ≤ 1000) : MkX K B σ F (tTup t) (.tuple ds) := fun H Q hF hB q => h H _ hF hB fun H1 vs s1 hvs => ⟨Nat.le_of_lt (small1000 (by rw [dps_len2 hvs]; exact l)), fun p hp => q _ _ (s1.trans (same_new hp)) (.tup (SqT.of (wx_new (hB.same s1) hp)) (dps_same (wx_mono (same_new hp)) hvs))⟩
theorem mx_lst {t : TA} {ds : List PyData} (h : MkXs K B σ F t ds) (l : ds.length ≤ 1000) : MkX K B σ F (tLst t) (.list ds) := fun H Q hF hB q => h H _ hF hB fun H1 vs s1 hvs => ⟨Nat.le_of_lt (small1000 (by rw [dps_len2 hvs]; exact l)), fun p hp => q _ _ (s1.trans (same_new hp)) (.lst (SqL.of (wx_new (hB.same s1) hp)) (dps_same (wx_mono (same_new hp)) hvs))⟩
theorem my_dat {te : TE} {d : PyData} (h : MkX K B σ F te d) : MkY K B σ F te d := fun H Q hF hB q => h H Q hF hB fun H' v s hv => q H' v s (.dat hv)
theorem my_dct : MkY K B σ F tDNewK (.dict []) := fun H Q _ hB q D hD => q _ _ (same_new hD) (.dct (wx_new hB hD))
theorem my_var {i : Nat} {v : V} {d : PyData} (e : σ[i]? = some (some v)) (h : ∀ H, F H → Th K (wx B H) v d) : MkY K B σ F (tVar i) d := fun H Q hF _ q => ⟨_, e, q H _ (Same.refl H) (h H hF)⟩
theorem mys_nil : MkYs K B σ F tNil [] := fun H Q _ _ q => q H [] (Same.refl H) .nil
theorem mys_cons (st : ∀ H H', Same H H' → F H → F H') {te : TE} {t : TA} {d : PyData} {ds : List PyData} (h : MkY K B σ F te d) (hs : MkYs K B σ F t ds) : MkYs K B σ F (tCons te t) (d :: ds) := fun H Q hF hB q => h H _ hF hB fun H1 v s1 hv => hs H1 _ (st _ _ s1 hF) (hB.same s1) fun H2 vs s2 hvs => q H2 _ (s1.trans s2) (.cons (th_same (wx_mono s2) hv) hvs)
/-- a new list of such things -/
theorem ylst_go {t : TA} {ds : List PyData} {H : Hp} {Q : VK} (h : MkYs K B σ F t ds) (hF : F H) (hB : BIn B H) (l : ds.length ≤ 1000) (q : ∀ H' a xs, Same H H' → H a = none → H' a = some (.lst xs) → PySem.W.EachIs (Th K (wx B H')) xs ds → Q (.ref a) H') : tLst t σ H Q :=
  h H _ hF hB fun H1 vs s1 hvs => ⟨Nat.le_of_lt (small1000 (by rw [hvs.length]; exact l)), fun p hp => q _ p vs (s1.trans (same_new hp)) (none_of s1 hp) upd_same (eachs_imp (fun _ _ => th_same (wx_mono (same_new hp))) hvs)⟩
end
theorem each_at {α β : Type} {R : α → β → Prop} : ∀ {ys : List α} {us : List β}, PySem.W.EachIs R ys us → ∀ {y : α}, y ∈ ys → ∃ u ∈ us, R y u
  | _, _, .nil, y, h => by cases h
  | _, _, .cons h t, y, hy => by
    rcases List.mem_cons.mp hy with rfl | hy
    · exact ⟨_, List.mem_cons_self .., h⟩
    · obtain ⟨u, h1, h2⟩ := each_at t hy
      exact ⟨u, List.mem_cons_of_mem _ h1, h2⟩
/-! ### things that are no pieces, decided -/
def shortB : PyData → Bool
  | .str s => decide (s.length ≤ 1000)
  | _ => true
theorem shortB_ok {d : PyData} (h : shortB d = true) : shortS d := by
  cases d with
  | str s =>
    have h : decide (s.length ≤ 1000) = true := h
    exact of_decide_eq_true (p := s.length ≤ 1000) h
  | _ => trivial
def shortPB (d : PyData) : Bool := match items d with
  | some [a, b] => shortB a && shortB b
  | _ => true
theorem shortPB_ok {d : PyData} (h : shortPB d = true) : shortP d := by
  unfold shortP
  split
  · rename_i a b
    have h : (shortB a && shortB b) = true := h
    rw [Bool.and_eq_true] at h
    exact ⟨shortB_ok h.1, shortB_ok h.2⟩
  · rename_i a b
    have h : (shortB a && shortB b) = true := h
    rw [Bool.and_eq_true] at h
    exact ⟨shortB_ok h.1, shortB_ok h.2⟩
  · trivial
def okPB (p : PyData) : Bool := match items p with
  | some [x, .int _] => shortPB x
  | _ => true
def okSB (w : PyData) : Bool := match items w with
  | some [.int _, q] => (match items q with
    | some ds => decide (ds.length ≤ 1000) && ds.all okPB
    | none => true)
  | _ => true
theorem okSB_ok {w : PyData} (h : okSB w = true) : okSum w := by
  intro n q ds e1 e2
  unfold okSB at h
  rw [e1] at h
  have h : (match items q with | some ds => decide (ds.length ≤ 1000) && ds.all okPB | none => true) = true := h
  rw [e2] at h
  have h : (decide (ds.length ≤ 1000) && ds.all okPB) = true := h
  rw [Bool.and_eq_true, decide_eq_true_iff, List.all_eq_true] at h
  refine ⟨h.1, fun p hp x m e => ⟨?_, fun u hu => readUnk_nm hu⟩⟩
  have hb := h.2 p hp
  unfold okPB at hb
  rw [e] at hb
  exact shortPB_ok hb
def okQB (d : PyData) : Bool := match items d with
  | some [p, _, ws] => shortB p && (match items ws with
    | some wl => decide (wl.length ≤ 100) && wl.all okSB
    | none => true)
  | _ => true
theorem okQB_ok {d : PyData} (h : okQB d = true) : okPc d := by
  intro p k ws e
  unfold okQB at h
  rw [e] at h
  have h : (shortB p && (match items ws with | some wl => decide (wl.length ≤ 100) && wl.all okSB | none => true)) = true := h
  rw [Bool.and_eq_true] at h
  refine ⟨shortB_ok h.1, fun wl e2 => ?_⟩
  have h2 := h.2
  rw [e2] at h2
  have h2 : (decide (wl.length ≤ 100) && wl.all okSB) = true := h2
  rw [Bool.and_eq_true, decide_eq_true_iff, List.all_eq_true] at h2
  exact ⟨h2.1, fun w hw => okSB_ok (h2.2 w hw)⟩
def noPcB (d : PyData) : Bool := okQB d && (readPc d).isNone
/-- a thing that is wrong behind the first k pieces -/
structure OddD (k : Nat) (qs : List Pk) (d : PyData) : Prop where
  ok : okPc d
  few : ∀ q, readPc d = some q → q.2.2.length ≤ 10
  bad : readPc d = none ∨ ∃ q, readPc d = some q ∧ q.1 ∈ (qs.take k).map (·.1)
theorem noPcB_ok {d : PyData} (h : noPcB d = true) (k : Nat) (qs : List Pk) : OddD k qs d := by
  unfold noPcB at h
  rw [Bool.and_eq_true] at h
  have n := Option.isNone_iff_eq_none.mp h.2
  exact ⟨okQB_ok h.1, fun q e => (by rw [n] at e; cases e), .inl n⟩
def odd1 : List PyData := [.none, .int 5, .str "ab", .tuple [], .tuple [.str "a", .str "code"], .tuple [.str "A", .str "code", .tuple []], .tuple [.str "zz", .str "text", .tuple []], .tuple [.str "zz", .str "data", .str "ab"], .dict []]
theorem odd1_ok : ∀ d ∈ odd1, noPcB d = true := by decide +kernel
theorem odd2_ok : noPcB (.tuple [.str "zz", .str "code", .tuple [.none]]) = true ∧ noPcB (.tuple [.str "zz", .str "code", .tuple [], .int 1]) = true ∧ noPcB .none = true ∧ noPcB (.tuple [.str "", .str "data", .list []]) = true := by decide +kernel
theorem dup_ok {z : Str} {k : Nat} {qs : List Pk} (h : NmOk z) (hz : z ∈ (qs.take k).map (·.1)) : OddD k qs (.tuple [.str z, .str "data", .tuple []]) := by
  have e : readPc (.tuple [.str z, .str "data", .tuple []]) = some ((z, ("data" : Str), []) : Pk) := by
    unfold readPc
    show (if isNmS z = true ∧ ("data" : Str) ∈ kinds2 then _ else _) = _
    rw [if_pos ⟨h.nm, by decide +kernel⟩]
    rfl
  refine ⟨fun p k' ws e' => ?_, fun q e' => ?_, .inr ⟨_, e, hz⟩⟩
  · have e' := Option.some.inj (show some [PyData.str z, .str "data", .tuple []] = some [p, k', ws] from e')
    obtain ⟨e1, e2⟩ := List.cons.inj e'
    obtain ⟨_, e3⟩ := List.cons.inj e2
    obtain ⟨e3, _⟩ := List.cons.inj e3
    subst e1
    subst e3
    refine ⟨h.sh, fun wl e4 => ?_⟩
    obtain rfl := Option.some.inj (show some ([] : List PyData) = some wl from e4)
    exact ⟨Nat.zero_le _, fun w hw => by cases hw⟩
  · rw [e] at e'
    rw [← Option.some.inj e']
    exact Nat.zero_le _
end DR

namespace DR
open PySem PySem.Spec PyProof.Rows L2
abbrev sRef : Stmt := topS 44
abbrev NRe : List Str := ["pool", "pieces", "names", "start", "found", "due", "wrong", "at", "both", "more", "odd"]
theorem scRef : FnScope NRe ["pool", "pieces", "names", "start"] (defScope sRef) := ⟨rfl, rfl, rfl, by decide +kernel, rfl, by decide +kernel, by decide +kernel⟩
abbrev oR (i : Nat) : Stmt := (defBody sRef).getD i (.Pass ⟨0, 0, 0, 0⟩)
abbrev oR12 (i : Nat) : Stmt := (forB (oR 12)).getD i (.Pass ⟨0, 0, 0, 0⟩)
abbrev qRef : Str := (envOfC "_law_refused_right" (defScope sRef) 0 0 .none).qual ++ "<lambda>"
abbrev XRe (P : Program) (w : World) (K : PySem.W.Frag) (mg : Str → Option Value) (base : Heap) (f c : Addr) (A : Around) (outer : List Env) (s : Shared) (H : Hp) (E : XK) : Cx := cxOf CX0 P w K mg base NRe "_law_refused_right" (defScope sRef) f (.ref c) A outer s H E
/-- what _law_refused_right calls -/
structure TRf (P : Program) (w : World) (K : PySem.W.Frag) (mg : Str → Option Value) (base : Heap) (C CB CW CS CN : Addr) : Prop where
  bi : Bi mg
  take : Has P w K mg base CX0 1 "_law_take" ["pool", "many"] spTake
  one : Has P w K mg base CX0 2 "_law_one" ["pool", "things"] (spOne K)
  met : Met K mg CB CW CS CN
  mki : MkI P w K mg base C CB CW CS
abbrev sgR (p M NL : Addr) (o3 o4 o5 o6 o7 o8 o9 o10 : Option V) : L2.St := [some (.ref p), some (.ref M), some (.ref NL), o3, o4, o5, o6, o7, o8, o9, o10]
theorem pcd_pieces {H : Hp} {K : PySem.W.Frag} {xs : List V} {qs : List Pk} (h : PySem.W.EachIs (PieceG H) xs qs) : PySem.W.EachIs (Th K H) xs (qs.map pkD) := ths_of (pieces_dp h)
theorem each_drop {α β : Type} {R : α → β → Prop} : ∀ (i : Nat) {as : List α} {bs : List β}, PySem.W.EachIs R as bs → PySem.W.EachIs R (as.drop i) (bs.drop i)
  | 0, _, _, h => h
  | i + 1, _, _, .nil => by rw [List.drop_nil, List.drop_nil]; exact .nil
  | i + 1, _, _, .cons h t => by
    rw [List.drop_succ_cons, List.drop_succ_cons]
    exact each_drop i t
theorem okpc_non : okPc .none ∧ ∀ q, readPc .none = some q → q.2.2.length ≤ 10 := ⟨fun p k ws e => (by cases e), fun q e => (by cases e)⟩
theorem okd_pieces {qs : List Pk} (h : ∀ q ∈ qs, QOk q) : ∀ y ∈ qs.map pkD, okPc y ∧ ∀ q, readPc y = some q → q.2.2.length ≤ 10 := fun y hy => by
  obtain ⟨q, hq, rfl⟩ := List.mem_map.mp hy
  have := (h q hq).pc
  refine ⟨this.2, fun q2 e => ?_⟩
  rw [this.1] at e
  rw [← Option.some.inj e]
  exact (h q hq).few
theorem odd_at {qs : List Pk} {k : Nat} {d : PyData} {rest : List PyData} (gl : GL qs) (hk : k ≤ qs.length) (o : OddD k qs d) : BadAt (((qs.take k).map pkD ++ [d]) ++ rest) k := by
  have lk : ((qs.take k).map pkD).length = k := by rw [List.length_map, List.length_take]; omega
  refine ⟨d, qs.take k, ?_, ?_, ?_, o.bad⟩
  · rw [List.append_assoc, List.getElem?_append_right (by omega), lk, Nat.sub_self]
    rfl
  · rw [List.append_assoc, List.take_append_of_le_length (by omega), List.take_of_length_le (by omega)]
    exact pcd_good (pcd_each fun q hq => gl.each q (List.mem_of_mem_take hq))
  · rw [List.map_take]
    exact gl.nod.sublist (List.take_sublist _ _)
section
variable {P : Program} {w : World} {K : PySem.W.Frag} {mg : Str → Option Value} {base : Heap} {C CB CW CS CN f c tw : Addr} {G0 : Hp} {T' : List (Addr × Str)} {A : Around} {outer : List Env} {s : Shared} {H0 : Hp} {E : XK}
theorem re0 (L : TRf P w K mg base C CB CW CS CN) (hr : Room 12 (XRe P w K mg base f c A outer s H0 E).A) : ∃ t, PS (XRe P w K mg base f c A outer s H0 E) (oR 0) t ∧
    ∀ (D : Ends) (B : List Addr) (H : Hp) (p M NL : Addr) (xs : List V) (qs : List Pk) (cc : Nat) (o3 o4 o5 o6 o7 o8 o9 o10 : Option V), Ry G0 T' B p M NL xs qs cc H → cc < 90000 → qs.length ≤ 10 →
      (∀ H' (k : Nat), Ry G0 T' B p M NL xs qs (cc + 1) H' → k ≤ qs.length → D.nx (sgR p M NL o3 o4 o5 o6 (some (.int (k : Nat))) o8 o9 o10) H') → t D (sgR p M NL o3 o4 o5 o6 o7 o8 o9 o10) H := by
  refine ⟨_, (ps_set (i := 7) scRef.nd rfl (.inr rfl) (pe_callH L.take (hr.mono (by decide)) (by rfl) pass0 (pa_cons (pv 0) (pa_cons (pe_op op_add (pe_callB call_len_seq (by rfl) L.bi.len (by decide +kernel) (pa_cons (pv 1) pa_nil)) pe_int) pa_nil)))), ?_⟩
  intro D B H p M NL xs qs cc o3 o4 o5 o6 o7 o8 o9 o10 h hc few q
  have lx : xs.length = qs.length := h.each.length
  refine ⟨_, rfl, _, rfl, M, xs, rfl, .inl (SqL.of h.lst), _, _, rfl, rfl, p, cc, _, rfl, h.pool, by omega, by omega, by omega, fun r o r0 r1 hP => ?_⟩
  have d1 : Dr p H (upd H p o) := fun b x hb e => by rw [upd_ne hb]; exact e
  obtain ⟨k, rfl⟩ := Int.eq_ofNat_of_zero_le r0
  exact q _ k (h.dr d1 hP) (by omega)
theorem re1 (L : TRf P w K mg base C CB CW CS CN) (hr : Room 12 (XRe P w K mg base f c A outer s H0 E).A) : ∃ t, PS (XRe P w K mg base f c A outer s H0 E) (oR 1) t ∧
    ∀ (D : Ends) (B : List Addr) (H : Hp) (p M NL : Addr) (xs : List V) (qs : List Pk) (cc : Nat) (o3 o4 o5 o6 o7 o8 o9 o10 : Option V), Ry G0 T' B p M NL xs qs cc H → cc < 90000 →
      (∀ H' v d, Ry G0 T' B p M NL xs qs (cc + 1) H' → Th K (wx B H') v d → d ∈ odd1 → D.nx (sgR p M NL o3 o4 o5 o6 o7 o8 o9 (some v)) H') → t D (sgR p M NL o3 o4 o5 o6 o7 o8 o9 o10) H := by
  refine ⟨_, (ps_set (i := 10) scRef.nd rfl (.inr rfl) (pe_callH L.one (hr.mono (by decide)) (by rfl) pass0 (pa_cons (pv 0) (pa_cons (pe_lst (pa_cons pe_non (pa_cons pe_int (pa_cons pe_str (pa_cons (pe_tup pa_nil) (pa_cons (pe_tup (pa_cons pe_str (pa_cons pe_str pa_nil))) (pa_cons (pe_tup (pa_cons pe_str (pa_cons pe_str (pa_cons (pe_tup pa_nil) pa_nil)))) (pa_cons (pe_tup (pa_cons pe_str (pa_cons pe_str (pa_cons (pe_tup pa_nil) pa_nil)))) (pa_cons (pe_tup (pa_cons pe_str (pa_cons pe_str (pa_cons pe_str pa_nil)))) (pa_cons (pe_dnewK) pa_nil)))))))))) pa_nil)))), ?_⟩
  intro D B H p M NL xs qs cc o3 o4 o5 o6 o7 o8 o9 o10 h hc q
  refine ⟨_, rfl, ylst_go (K := K) (B := B) (F := fun _ => True) (ds := odd1) (by repeat' (first | exact mx_non | exact mx_int | exact mx_str | exact mxs_nil | exact mys_nil | exact my_dct | refine mxs_cons (fun _ _ _ h => h) ?_ ?_ | refine mys_cons (fun _ _ _ h => h) ?_ ?_ | refine mx_tup ?_ (by decide) | refine mx_lst ?_ (by decide) | refine my_dat ?_)) trivial h.bin (by decide) fun H1 a vs s1 na ha hvs => ?_⟩
  have h1 := h.same s1
  have lv := hvs.length
  have l9 : odd1.length = 9 := rfl
  refine ⟨p, a, cc, vs, rfl, h1.pool, by omega, .inl (SqL.of ha), pool_ne h.pool na, by omega, by omega, fun v o hv hP => ?_⟩
  obtain ⟨d, hd, th⟩ := each_at hvs hv
  have d1 : Dr p H1 (upd H1 p o) := fun b x hb e => by rw [upd_ne hb]; exact e
  exact q _ v d (h1.dr d1 hP) (th_ext (KpX.ext (.dr h1.pB d1)) th) hd
theorem re2 (L : TRf P w K mg base C CB CW CS CN) (hr : Room 12 (XRe P w K mg base f c A outer s H0 E).A) : ∃ t, PS (XRe P w K mg base f c A outer s H0 E) (oR 2) t ∧
    ∀ (D : Ends) (B : List Addr) (H : Hp) (p M NL : Addr) (xs : List V) (qs : List Pk) (cc k : Nat) (v0 : V) (d0 : PyData) (o3 o4 o5 o6 o8 o9 : Option V), Ry G0 T' B p M NL xs qs cc H → cc < 90000 → Th K (wx B H) v0 d0 → OddD k qs d0 → k ≤ qs.length → (∀ q ∈ qs, NmOk q.1) →
      (∀ H' v d, Ry G0 T' B p M NL xs qs (cc + 1) H' → Th K (wx B H') v d → OddD k qs d → D.nx (sgR p M NL o3 o4 o5 o6 (some (.int (k : Nat))) o8 o9 (some v)) H') → t D (sgR p M NL o3 o4 o5 o6 (some (.int (k : Nat))) o8 o9 (some v0)) H := by
  refine ⟨_, (ps_set (i := 10) scRef.nd rfl (.inr rfl) (pe_callH L.one (hr.mono (by decide)) (by rfl) pass0 (pa_cons (pv 0) (pa_cons (pe_lst (pa_cons (pv 10) (pa_cons (pe_tup (pa_cons pe_str (pa_cons pe_str (pa_cons (pe_tup (pa_cons pe_non pa_nil)) pa_nil)))) (pa_cons (pe_tup (pa_cons pe_str (pa_cons pe_str (pa_cons (pe_tup pa_nil) (pa_cons pe_int pa_nil))))) (pa_cons (pe_ifExp (pt_cmpR op_gt (pv 7) pe_int (nomark _)) (pe_tup (pa_cons (pe_ix ix_list (pv 2) pe_int (fun _ _ => rfl)) (pa_cons pe_str (pa_cons (pe_tup pa_nil) pa_nil)))) pe_non) (pa_cons (pe_tup (pa_cons pe_str (pa_cons pe_str (pa_cons (pe_lst pa_nil) pa_nil)))) pa_nil)))))) pa_nil)))), ?_⟩
  intro D B H p M NL xs qs cc k v0 d0 o3 o4 o5 o6 o8 o9 h hc th0 od0 hk nms q
  have st : ∀ H H' : Hp, Same H H' → (Th K (wx B H) v0 d0 ∧ H NL = some (.lst ((qs.map (·.1)).map V.str))) → (Th K (wx B H') v0 d0 ∧ H' NL = some (.lst ((qs.map (·.1)).map V.str))) := fun H H' e z => ⟨th_same (wx_mono e) z.1, e _ _ z.2⟩
  obtain ⟨c1, c2, c3, c4⟩ := odd2_ok
  obtain ⟨d4, od4, m4⟩ : ∃ d4, OddD k qs d4 ∧ MkX K B (sgR p M NL o3 o4 o5 o6 (some (.int (k : Nat))) o8 o9 (some v0)) (fun H => Th K (wx B H) v0 d0 ∧ H NL = some (.lst ((qs.map (·.1)).map V.str))) (tIf (tB (tOp (rI0 fun i j => .bl (decide (j < i))) (tVar 7) (tC (.int 0)))) (tTup (tCons (tOp (rIxL K) (tVar 2) (tC (.int 0))) (tCons (tC (.str "data")) (tCons (tTup tNil) tNil)))) (tC .non)) d4 := by
    by_cases kz : k = 0
    · refine ⟨.none, noPcB_ok c3 k qs, fun H1 Q1 hF hB q1 => ?_⟩
      refine ⟨_, rfl, _, _, rfl, rfl, _, rfl, ?_⟩
      rw [show decide ((0 : Int) < ((k : Nat) : Int)) = false from decide_eq_false (by omega)]
      exact iteF (q1 H1 _ (Same.refl _) .non)
    · have lq : 0 < qs.length := by omega
      obtain ⟨q0, qr, eq0⟩ : ∃ q0 qr, qs = q0 :: qr := by
        cases qs with
        | nil => exact absurd lq (by simp)
        | cons a b => exact ⟨a, b, rfl⟩
      have od : OddD k qs (.tuple [.str q0.1, .str "data", .tuple []]) := dup_ok (nms q0 (by rw [eq0]; exact List.mem_cons_self ..)) (by
        rw [eq0]
        cases k with
        | zero => exact absurd rfl kz
        | succ k => exact List.mem_cons_self ..)
      refine ⟨_, od, fun H1 Q1 hF hB q1 => ?_⟩
      refine ⟨_, rfl, _, _, rfl, rfl, _, rfl, ?_⟩
      rw [show decide ((0 : Int) < ((k : Nat) : Int)) = true from decide_eq_true (by omega)]
      refine iteT (mx_tup (F := fun H => Th K (wx B H) v0 d0 ∧ H NL = some (.lst ((qs.map (·.1)).map V.str))) (mxs_cons st (fun H2 Q2 hF2 _ q2 => ⟨_, rfl, NL, _, _, _, rfl, rfl, SqL.of hF2.2, at_of (i := 0) (by rw [eq0]; rfl), q2 H2 _ (Same.refl _) (.str _)⟩) (mxs_cons st mx_str (mxs_cons st (mx_tup mxs_nil (by decide)) mxs_nil))) (by show 3 ≤ 1000; decide) H1 Q1 hF hB q1)
  refine ⟨_, rfl, ylst_go (K := K) (B := B) (F := fun H => Th K (wx B H) v0 d0 ∧ H NL = some (.lst ((qs.map (·.1)).map V.str))) (ds := [d0, .tuple [.str "zz", .str "code", .tuple [.none]], .tuple [.str "zz", .str "code", .tuple [], .int 1], d4, .tuple [.str "", .str "data", .list []]]) (mys_cons st (my_var rfl fun _ z => z.1) (mys_cons st (my_dat (mx_tup (mxs_cons st mx_str (mxs_cons st mx_str (mxs_cons st (mx_tup (mxs_cons st mx_non mxs_nil) (by decide)) mxs_nil))) (by decide))) (mys_cons st (my_dat (mx_tup (mxs_cons st mx_str (mxs_cons st mx_str (mxs_cons st (mx_tup mxs_nil (by decide)) (mxs_cons st mx_int mxs_nil)))) (by decide))) (mys_cons st (my_dat m4) (mys_cons st (my_dat (mx_tup (mxs_cons st mx_str (mxs_cons st mx_str (mxs_cons st (mx_lst mxs_nil (by decide)) mxs_nil))) (by decide))) mys_nil))))) ⟨th0, h.nms⟩ h.bin (by show 5 ≤ 1000; decide) fun H1 a vs s1 na ha hvs => ?_⟩
  have h1 := h.same s1
  have lv : vs.length = 5 := hvs.length
  refine ⟨p, a, cc, vs, rfl, h1.pool, by omega, .inl (SqL.of ha), pool_ne h.pool na, by omega, by omega, fun v o hv hP => ?_⟩
  obtain ⟨d, hd, th⟩ := each_at hvs hv
  have d1 : Dr p H1 (upd H1 p o) := fun b x hb e => by rw [upd_ne hb]; exact e
  have od : OddD k qs d := by
    simp only [List.mem_cons, List.not_mem_nil, or_false] at hd
    rcases hd with rfl | rfl | rfl | rfl | rfl
    · exact od0
    · exact noPcB_ok c1 k qs
    · exact noPcB_ok c2 k qs
    · exact od4
    · exact noPcB_ok c4 k qs
  exact q _ v d (h1.dr d1 hP) (th_ext (KpX.ext (.dr h1.pB d1)) th) od
end
end DR

namespace DR
open PySem PySem.Spec PyProof.Rows L2
/-! ### _law_refused_right: pieces that are none -/
def pcE (k : Nat) : PyData := .tuple [.str "piece", .int (k : Nat)]
def wdE : PyData := .tuple [.str "word", .tuple [.str "zz", .int 1]]
/-- what is found, one more -/
theorem app_go {K : PySem.W.Frag} {G0 : Hp} {T' : List (Addr × Str)} {B : List Addr} {p M NL r : Addr} {xs : List V} {qs : List Pk} {cc : Nat} {ds : List PyData} {d : PyData} {v : V} {H : Hp} {σ : L2.St} {Nx : L2.St → Hp → Prop} (h : Ry G0 T' B p M NL xs qs cc H) (hr : r ∈ B) (rp : r ≠ p) (F : Fd K B r ds H) (l : ds.length ≤ 100) (hv : Dp K (wx B H) v d)
    (q : ∀ ys, H r = some (.lst ys) → Ry G0 T' B p M NL xs qs cc (upd H r (.lst (ys ++ [v]))) → Fd K B r (ds ++ [d]) (upd H r (.lst (ys ++ [v]))) → Nx σ (upd H r (.lst (ys ++ [v])))) : rAppend (.ref r) [v] H fun _ H' => Nx σ H' := by
  obtain ⟨ys, h1, h2⟩ := F.ex
  have ly := dps_len2 h2
  exact ⟨r, ys, v, rfl, rfl, h1, small1000 (by omega), q ys h1 (h.put hr rp h1) (Fd.app hr h1 h2 hv)⟩
section
variable {P : Program} {w : World} {K : PySem.W.Frag} {mg : Str → Option Value} {base : Heap} {C CB CW CS CN f c tw : Addr} {G0 : Hp} {T' : List (Addr × Str)} {A : Around} {outer : List Env} {s : Shared} {H0 : Hp} {E : XK}
theorem re3 (L : TRf P w K mg base C CB CW CS CN) (TB : LamX.TabB base mg c tw) (hmT : (tw, qRef) ∈ T') (hu : ∀ p ∈ T', p.1 = tw → p.2 = qRef) (hr : Room 12 (XRe P w K mg base f c A outer s H0 E).A) : ∃ t, PS (XRe P w K mg base f c A outer s H0 E) (oR 3) t ∧
    ∀ (D : Ends) (B : List Addr) (H : Hp) (p M NL : Addr) (xs : List V) (qs : List Pk) (cc k : Nat) (v0 : V) (d0 : PyData) (o3 o4 o5 o6 o8 o9 : Option V), Ry G0 T' B p M NL xs qs cc H → GL qs → qs.length ≤ 8 → Th K (wx B H) v0 d0 → OddD k qs d0 → k ≤ qs.length →
      (∀ H' r, Ry G0 T' (r :: B) p M NL xs qs cc H' → r ≠ p → Fd K (r :: B) r [pcE k] H' → D.nx (sgR p M NL o3 (some (.ref r)) o5 o6 (some (.int (k : Nat))) o8 o9 (some v0)) H') → t D (sgR p M NL o3 o4 o5 o6 (some (.int (k : Nat))) o8 o9 (some v0)) H := by
  refine ⟨_, (ps_set (i := 4) scRef.nd rfl (.inl rfl) (pe_lst (pa_cons (pe_met (k := 9) (t := fun E => tMake C (spImg K C CB CW CS) [] E (tCons (tOp rCat (tOp rCat (tOp rCat (tSl (rSlL K) (tVar 1) tNoPart (L2.tPart (tVar 7))) (tLst (tCons (tVar 10) tNil))) (tSl (rSlL K) (tVar 1) (L2.tPart (tVar 7)) tNoPart)) (tLst (tCons (tC .non) tNil))) (tCons (tC .non) tNil))) L.met (by rfl) TB rfl hmT hu (hr.mono (by decide)) (LamX.lamS_by (show LamX.lamSB (defScope sRef) _ = true by decide +kernel)) rfl (fun _ _ _ _ _ => rfl) fun A outer s H E f c' hr => (pe_makeI L.mki (hr.mono (by decide)) (by rfl) (passes_call (W := fun cls d _ H => E cls d H) (takes_of rfl rfl rfl rfl) (fun _ _ _ _ h => h)) (pa_cons (pe_op op_cat (pe_op op_cat (pe_op op_cat (pe_slice sl_list (pv 1) po_none (po_some (pv 7))) (pe_lst (pa_cons (pv 10) pa_nil))) (pe_slice sl_list (pv 1) (po_some (pv 7)) po_none)) (pe_lst (pa_cons pe_non pa_nil))) (pa_cons pe_non pa_nil)))) pa_nil))), ?_⟩
  intro D B H p M NL xs qs cc k v0 d0 o3 o4 o5 o6 o8 o9 h gl few th0 od hk q
  refine ⟨h.tabs, fun H1 e1 t1 => ?_⟩
  have h1 := h.ext e1 t1
  have th1 : Th K H1 v0 d0 := th_same wx_sub (th_ext (KpX.ext (.ofN e1)) th0)
  have lx : xs.length = qs.length := h.each.length
  refine ⟨_, rfl, _, rfl, k, rfl, M, xs, rfl, SqL.of h1.lst, fun a1 n1 => ?_⟩
  rw [cut_to (by omega)]
  have k1 := same_new (o := .lst (xs.take k)) n1
  have g1 : upd H1 a1 (.lst (xs.take k)) a1 = some (.lst (xs.take k)) := upd_same
  generalize upd H1 a1 (.lst (xs.take k)) = H2 at k1 g1 ⊢
  refine ⟨_, rfl, (by show 1 ≤ sizeLine; decide), fun a2 n2 => ?_⟩
  have k2 := same_new (o := .lst [v0]) n2
  have g2 : upd H2 a2 (.lst [v0]) a2 = some (.lst [v0]) := upd_same
  generalize upd H2 a2 (.lst [v0]) = H3 at k2 g2 ⊢
  refine ⟨a1, a2, _, _, rfl, rfl, k2 _ _ g1, g2, Nat.le_of_lt (small1000 (by simp; omega)), fun a3 n3 => ?_⟩
  have k3 := same_new (o := .lst (xs.take k ++ [v0])) n3
  have g3 : upd H3 a3 (.lst (xs.take k ++ [v0])) a3 = some (.lst (xs.take k ++ [v0])) := upd_same
  generalize upd H3 a3 (.lst (xs.take k ++ [v0])) = H4 at k3 g3 ⊢
  have S4 := k1.trans (k2.trans k3)
  refine ⟨_, rfl, _, rfl, k, rfl, M, xs, rfl, SqL.of (S4 _ _ h1.lst), fun a4 n4 => ?_⟩
  rw [cut_from (by omega)]
  have k4 := same_new (o := .lst (xs.drop k)) n4
  have g4 : upd H4 a4 (.lst (xs.drop k)) a4 = some (.lst (xs.drop k)) := upd_same
  generalize upd H4 a4 (.lst (xs.drop k)) = H5 at k4 g4 ⊢
  refine ⟨a3, a4, _, _, rfl, rfl, k4 _ _ g3, g4, Nat.le_of_lt (small1000 (by simp; omega)), fun a5 n5 => ?_⟩
  have k5 := same_new (o := .lst ((xs.take k ++ [v0]) ++ xs.drop k)) n5
  have g5 : upd H5 a5 (.lst ((xs.take k ++ [v0]) ++ xs.drop k)) a5 = some (.lst ((xs.take k ++ [v0]) ++ xs.drop k)) := upd_same
  generalize upd H5 a5 (.lst ((xs.take k ++ [v0]) ++ xs.drop k)) = H6 at k5 g5 ⊢
  refine ⟨(by show 1 ≤ sizeLine; decide), fun a6 n6 => ?_⟩
  have k6 := same_new (o := .lst [V.non]) n6
  have g6 : upd H6 a6 (.lst [V.non]) a6 = some (.lst [V.non]) := upd_same
  generalize upd H6 a6 (.lst [V.non]) = H7 at k6 g6 ⊢
  refine ⟨a5, a6, _, _, rfl, rfl, k6 _ _ g5, g6, Nat.le_of_lt (small1000 (by simp; omega)), fun a7 n7 => ?_⟩
  have k7 := same_new (o := .lst (((xs.take k ++ [v0]) ++ xs.drop k) ++ [V.non])) n7
  have g7 : upd H7 a7 (.lst (((xs.take k ++ [v0]) ++ xs.drop k) ++ [V.non])) a7 = some (.lst (((xs.take k ++ [v0]) ++ xs.drop k) ++ [V.non])) := upd_same
  generalize upd H7 a7 (.lst (((xs.take k ++ [v0]) ++ xs.drop k) ++ [V.non])) = H8 at k7 g7 ⊢
  have S8 := S4.trans (k4.trans (k5.trans (k6.trans k7)))
  have each8 := (h1.same S8).each
  have ths : PySem.W.EachIs (Th K H8) (((xs.take k ++ [v0]) ++ xs.drop k) ++ [V.non]) ((((qs.take k).map pkD ++ [d0]) ++ (qs.drop k).map pkD) ++ [.none]) :=
    each_app2 (each_app2 (each_app2 (pcd_pieces (each_take k each8)) (.cons (th_same S8 th1) .nil)) (pcd_pieces (each_drop k each8))) (.cons (.dat .non) .nil)
  have lq : (qs.take k).length + (qs.drop k).length = qs.length := by rw [List.length_take, List.length_drop]; omega
  refine fun x dx hx hdx hne => img_piece (d := .list ((((qs.take k).map pkD ++ [d0]) ++ (qs.drop k).map pkD) ++ [.none])) (.inr ⟨a7, _, _, rfl, rfl, .inl (SqL.of g7), ths⟩) (.dat .non) (fun x y e => by cases e) rfl (by simp; omega) (fun y hy => ?_) (by rw [List.append_assoc]; exact odd_at gl hk od) hx hdx hne fun H9 d9 s9 hd9 => ?_
  · rcases List.mem_append.mp hy with hy | hy
    · rcases List.mem_append.mp hy with hy | hy
      · rcases List.mem_append.mp hy with hy | hy
        · exact okd_pieces (fun q hq => gl.each q (List.mem_of_mem_take hq)) y hy
        · rw [List.mem_singleton.mp hy]
          exact ⟨od.ok, od.few⟩
      · exact okd_pieces (fun q hq => gl.each q (List.mem_of_mem_drop hq)) y hy
    · rw [List.mem_singleton.mp hy]
      exact okpc_non
  · refine .piece upd_same fun t9 n9 => ?_
    have j1 := same_new (o := .xd [("index", .int (k : Nat))]) hd9
    have j2 := same_new (o := .tup [V.str "piece", V.int (k : Nat)]) n9
    have S9 := S8.trans (s9.trans (j1.trans j2))
    have g9 : upd (upd H9 d9 (.xd [("index", .int (k : Nat))])) t9 (.tup [V.str "piece", V.int (k : Nat)]) t9 = some (.tup [V.str "piece", V.int (k : Nat)]) := upd_same
    generalize upd (upd H9 d9 (.xd [("index", .int (k : Nat))])) t9 (.tup [V.str "piece", V.int (k : Nat)]) = H10 at S9 g9 j2 ⊢
    have h10 := h1.same S9
    have t9B : t9 ∉ B := by
      intro z
      obtain ⟨ys, y⟩ := h10.bl t9 z
      rw [g9] at y
      cases y
    refine ⟨(by show 1 ≤ sizeLine; decide), fun r hr => ?_⟩
    refine q _ r (h10.more hr) (pool_ne h10.pool hr) ⟨[.ref t9], upd_same, .cons (.tup (SqT.of ?_) (.cons (.str _) (.cons (.int _) .nil))) .nil⟩
    have tr : t9 ≠ r := fun z => by rw [z, hr] at g9; cases g9
    rw [wx_out (fun z => (List.mem_cons.mp z).elim tr t9B), upd_ne tr]
    exact g9
theorem re4 : ∃ t, PS (XRe P w K mg base f c A outer s H0 E) (oR 4) t ∧
    ∀ (D : Ends) (B : List Addr) (H : Hp) (p M NL r : Addr) (xs : List V) (qs : List Pk) (cc k : Nat) (ds : List PyData) (o3 o5 o6 o8 o9 o10 : Option V), Ry G0 T' B p M NL xs qs cc H → Fd K B r ds H →
      (∀ H' u, Ry G0 T' (u :: B) p M NL xs qs cc H' → u ≠ p → u ≠ r → Fd K (u :: B) r ds H' → Fd K (u :: B) u [pcE k] H' → D.nx (sgR p M NL o3 (some (.ref r)) (some (.ref u)) o6 (some (.int (k : Nat))) o8 o9 o10) H') → t D (sgR p M NL o3 (some (.ref r)) o5 o6 (some (.int (k : Nat))) o8 o9 o10) H := by
  refine ⟨_, (ps_set (i := 5) scRef.nd rfl (.inl rfl) (pe_lst (pa_cons (pe_tup (pa_cons pe_str (pa_cons (pv 7) pa_nil))) pa_nil))), ?_⟩
  intro D B H p M NL r xs qs cc k ds o3 o5 o6 o8 o9 o10 h F q
  refine ⟨_, rfl, (by show 2 ≤ sizeLine; decide), fun t1 n1 => ?_⟩
  have k1 := same_new (o := .tup [V.str "piece", V.int (k : Nat)]) n1
  have g1 : upd H t1 (.tup [V.str "piece", V.int (k : Nat)]) t1 = some (.tup [V.str "piece", V.int (k : Nat)]) := upd_same
  have t1B := h.bin.out n1
  generalize upd H t1 (.tup [V.str "piece", V.int (k : Nat)]) = H1 at k1 g1 ⊢
  have h1 := h.same k1
  have F1 := F.same k1
  refine ⟨(by show 1 ≤ sizeLine; decide), fun u hu => ?_⟩
  obtain ⟨ys, hr, _⟩ := F1.ex
  have tu : t1 ≠ u := fun z => by rw [z, hu] at g1; cases g1
  refine q _ u (h1.more hu) (pool_ne h1.pool hu) (fun z => by rw [z, hr] at hu; cases hu) (F1.more hu) ⟨[.ref t1], upd_same, .cons (.tup (SqT.of ?_) (.cons (.str _) (.cons (.int _) .nil))) .nil⟩
  rw [wx_out (fun z => (List.mem_cons.mp z).elim tu t1B), upd_ne tu]
  exact g1
theorem re5 (L : TRf P w K mg base C CB CW CS CN) (TB : LamX.TabB base mg c tw) (hmT : (tw, qRef) ∈ T') (hu : ∀ p ∈ T', p.1 = tw → p.2 = qRef) (hr : Room 12 (XRe P w K mg base f c A outer s H0 E).A) : ∃ t, PS (XRe P w K mg base f c A outer s H0 E) (oR 5) t ∧
    ∀ (D : Ends) (B : List Addr) (H : Hp) (p M NL r u : Addr) (xs : List V) (qs : List Pk) (cc : Nat) (ds es : List PyData) (o3 o6 o7 o8 o9 o10 : Option V), Ry G0 T' B p M NL xs qs cc H → cc < 90000 → r ∈ B → r ≠ p → u ∈ B → u ≠ p → u ≠ r → Fd K B r ds H → Fd K B u es H → ds.length ≤ 90 →
      (∀ H', Ry G0 T' B p M NL xs qs (cc + 1) H' → Fd K B r (ds ++ [pcE 0]) H' → Fd K B u es H' → D.nx (sgR p M NL o3 (some (.ref r)) (some (.ref u)) o6 o7 o8 o9 o10) H') → t D (sgR p M NL o3 (some (.ref r)) (some (.ref u)) o6 o7 o8 o9 o10) H := by
  refine ⟨_, (ps_expr (pe_bm PySem.F.plainAttrs_list PySem.F.slot_list_append PySem.F.type_list_append mt_append (pv 4) (pa_cons (pe_met (k := 9) (t := fun E => tMake C (spImg K C CB CW CS) [] E (tCons (tCall (spOne K) [] E0 (tCons (tVar 0) (tCons (tLst (tCons (tC .non) (tCons (tC (.int 5)) (tCons (tC (.str "ab")) (tCons tDNewK tNil))))) tNil))) (tCons (tC .non) tNil))) L.met (by rfl) TB rfl hmT hu (hr.mono (by decide)) (LamX.lamS_by (show LamX.lamSB (defScope sRef) _ = true by decide +kernel)) rfl (fun _ _ _ _ _ => rfl) fun A outer s H E f c' hr => (pe_makeI L.mki (hr.mono (by decide)) (by rfl) (passes_call (W := fun cls d _ H => E cls d H) (takes_of rfl rfl rfl rfl) (fun _ _ _ _ h => h)) (pa_cons (pe_callH L.one (hr.mono (by decide)) (by rfl) pass0 (pa_cons (pv 0) (pa_cons (pe_lst (pa_cons pe_non (pa_cons pe_int (pa_cons pe_str (pa_cons pe_dnewK pa_nil))))) pa_nil))) (pa_cons pe_non pa_nil)))) pa_nil))), ?_⟩
  intro D B H p M NL r u xs qs cc ds es o3 o6 o7 o8 o9 o10 h hc hrB rp huB up ur F Fu ld q
  obtain ⟨ys0, hr0, _⟩ := F.ex
  refine ⟨_, rfl, .inl ⟨rfl, _, SqL.of hr0⟩, h.tabs, fun H1 e1 t1 => ?_⟩
  have h1 := h.ext e1 t1
  have F1 := F.ext e1
  have Fu1 := Fu.ext e1
  refine ⟨_, rfl, ylst_go (K := K) (B := B) (F := fun _ => True) (ds := [.none, .int 5, .str "ab", .dict []]) (by repeat' (first | exact mx_non | exact mx_int | exact mx_str | exact mys_nil | exact my_dct | refine mys_cons (fun _ _ _ h => h) ?_ ?_ | refine my_dat ?_)) trivial h1.bin (by show 4 ≤ 1000; decide) fun H2 a vs s2 na ha hvs => ?_⟩
  have h2 := h1.same s2
  have lv : vs.length = 4 := hvs.length
  refine ⟨p, a, cc, vs, rfl, h2.pool, by omega, .inl (SqL.of ha), pool_ne h1.pool na, by omega, by omega, fun v o hv hP => ?_⟩
  obtain ⟨d, hd, th⟩ := each_at hvs hv
  have d2 : Dr p H2 (upd H2 p o) := fun b x hb e => by rw [upd_ne hb]; exact e
  have h3 := h2.dr d2 hP
  have F3 := (F1.same s2).dr rp h1.pB d2
  have Fu3 := (Fu1.same s2).dr up h1.pB d2
  have th3 := th_ext (KpX.ext (.dr h1.pB d2)) th
  generalize upd H2 p o = H3 at h3 F3 Fu3 th3 ⊢
  have ei : items d = none := by
    simp only [List.mem_cons, List.not_mem_nil, or_false] at hd
    rcases hd with rfl | rfl | rfl | rfl <;> rfl
  refine fun x dx hx hdx hne => img_norow (.inl ⟨ei, th_same wx_sub th3⟩) (.dat .non) (fun x y e => by cases e) ei hx hdx hne fun H9 d9 s9 hd9 => ?_
  refine .piece upd_same fun t9 n9 => ?_
  have j1 := same_new (o := .xd [("index", .int 0)]) hd9
  have j2 := same_new (o := .tup [V.str "piece", V.int 0]) n9
  have S9 := s9.trans (j1.trans j2)
  have g9 : upd (upd H9 d9 (.xd [("index", .int 0)])) t9 (.tup [V.str "piece", V.int 0]) t9 = some (.tup [V.str "piece", V.int 0]) := upd_same
  generalize upd (upd H9 d9 (.xd [("index", .int 0)])) t9 (.tup [V.str "piece", V.int 0]) = H10 at S9 g9 j2 ⊢
  have h10 := h3.same S9
  have t9B : t9 ∉ B := by
    intro z
    obtain ⟨ys, y⟩ := h10.bl t9 z
    rw [g9] at y
    cases y
  refine app_go h10 hrB rp (F3.same S9) (by omega) (d := pcE 0) (.tup (SqT.of (by rw [wx_out t9B]; exact g9)) (.cons (.str _) (.cons (.int _) .nil))) fun ys hy h11 F11 => ?_
  exact q _ h11 F11 ((Fu3.same S9).put hrB ur)
end
end DR

namespace DR
open PySem PySem.Spec PyProof.Rows L2
/-! ### _law_refused_right: words that are none -/
/-- an unknown that is no place of these pieces -/
structure WrongD (d : PyData) (u : List Key) : Prop where
  rd : readUnk d = some u
  sh : shortP d
  no : ∀ qs : List Pk, ("nosuch" : Str) ∉ qs.map (·.1) → ownU qs u = false
theorem ownU_ne {qs : List Pk} {k : Str} {o : Key} (h : k ≠ sPiece) : ownU qs [.inr k, o] = false := by simp [ownU, h]
theorem ownU_no {qs : List Pk} {k : Str} {o : Key} (h : valV (kindD qs) o = none) : ownU qs [.inr k, o] = false := by simp [ownU, h]
theorem wrong_name {z : Str} (h : NmOk z) : WrongD (.tuple [.str "name", .str z]) [.inr "name", .inr z] := by
  refine ⟨?_, ⟨by show (Str.ofString "name").length ≤ 1000; decide +kernel, h.sh⟩, fun qs _ => ?_⟩
  · show (rank sName).bind (fun _ => (ofKey sName (.str z)).map fun y => ([.inr sName, y] : List Key)) = _
    have r : rank sName = some 1 := by decide +kernel
    have n : ¬ sName = sIn := by decide +kernel
    rw [r]
    show (ofKey sName (.str z)).map _ = _
    unfold ofKey
    rw [if_neg n]
    show (if isNmS z = true then some (Sum.inr z : Key) else none).map _ = _
    rw [if_pos h.nm]
    rfl
  · exact ownU_ne (by decide +kernel)
theorem val_out {qs : List Pk} {z : Str} (h : z ∉ qs.map (·.1)) : valV (kindD qs) (.inr z) = none := by
  rw [kind_val2]
  unfold kindOf
  rw [List.find?_eq_none.mpr]
  · rfl
  · intro q hq c
    exact h (List.mem_map.mpr ⟨q, hq, of_decide_eq_true c⟩)
theorem wrong_piece : WrongD (.tuple [.str "piece", .str "nosuch"]) [.inr "piece", .inr "nosuch"] := by
  refine ⟨by decide +kernel, ⟨by show (Str.ofString "piece").length ≤ 1000; decide +kernel, by show (Str.ofString "nosuch").length ≤ 1000; decide +kernel⟩, fun qs h => ?_⟩
  exact ownU_no (val_out h)
theorem wrong_in : WrongD (.tuple [.str "in", .int 1]) [.inr "in", .inl 1] := by
  refine ⟨by decide +kernel, ⟨by show (Str.ofString "in").length ≤ 1000; decide +kernel, trivial⟩, fun qs h => ?_⟩
  exact ownU_ne (by decide +kernel)
theorem wl_one {d : PyData} {u : List Key} {n m : Int} (h : WrongD d u) (hm : m ≠ 0) : WL (.tuple [.int n, .tuple [.tuple [d, .int m]]]) (n, [(u, m)]) := by
  refine ⟨?_, fun n' q ds e1 e2 => ?_⟩
  · show (readParts [.tuple [d, .int m]] []).map (fun kvs => (n, form kvs)) = _
    have : readParts [.tuple [d, .int m]] [] = some (accAll [(u, m)]) := by
      show ((readUnk d).map _).bind _ = _
      rw [h.rd]
      rfl
    rw [this]
    show some (n, form (accAll [(u, m)])) = _
    rw [form_one hm]
  · have e1 := Option.some.inj (show some [PyData.int n, .tuple [.tuple [d, .int m]]] = some [.int n', q] from e1)
    obtain rfl := (List.cons.inj (List.cons.inj e1).2).1
    obtain rfl := Option.some.inj (show some [PyData.tuple [d, .int m]] = some ds from e2)
    refine ⟨by show 1 ≤ 1000; decide, fun p hp => ?_⟩
    rw [List.mem_singleton.mp hp]
    intro x m' e
    have e := Option.some.inj (show some [d, .int m] = some [x, .int m'] from e)
    obtain rfl := (List.cons.inj e).1
    exact ⟨h.sh, fun u' hu => readUnk_nm hu⟩
def zz : Str := "zz"
def yy : Str := "y"
theorem zz_ok : NmOk zz := ⟨by decide +kernel, by decide +kernel⟩
theorem yy_ok : NmOk yy := ⟨by decide +kernel, by decide +kernel⟩
def mD (d : PyData) : PyData := .tuple [.str "zz", .str "data", .list [.tuple [.int 0, .tuple []], .tuple [.int 5, .tuple [.tuple [d, .int 2]]], .tuple [.int 1, .tuple [.tuple [d, .int 1]]]]]
def mQ (u : List Key) : Pk := (zz, "data", [(0, []), (5, [(u, 2)]), (1, [(u, 1)])])
def yD (d : PyData) : PyData := .tuple [.str "y", .str "data", .list [.tuple [.int 0, .tuple [.tuple [d, .int 1]]]]]
def yQ (u : List Key) : Pk := (yy, "data", [(0, [(u, 1)])])
theorem mD_ok {d : PyData} {u : List Key} (h : WrongD d u) : PcD (mD d) (mQ u) :=
  (show PSh (mD d) (mQ u) from ⟨_, _, rfl, rfl, .cons (wd_bare (by unfold Sz; decide)).wl (.cons (wl_one h (by decide)) (.cons (wl_one h (by decide)) .nil))⟩).pc zz_ok (by show ("data" : Str) ∈ kinds2; decide +kernel) (by show 3 ≤ 10; decide)
theorem yD_ok {d : PyData} {u : List Key} (h : WrongD d u) : PcD (yD d) (yQ u) :=
  (show PSh (yD d) (yQ u) from ⟨_, _, rfl, rfl, .cons (wl_one h (by decide)) .nil⟩).pc yy_ok (by show ("data" : Str) ∈ kinds2; decide +kernel) (by show 1 ≤ 10; decide)
theorem own_of {qs qs' : List Pk} (h : ∀ q ∈ qs, ∀ w ∈ q.2.2, ∀ u ∈ w.2.map (·.1), ∃ z ∈ qs'.map (·.1), u = [.inr sPiece, .inr z]) : ∀ a ∈ adrs qs, ownA qs' a = true := by
  intro a ha
  obtain ⟨q, hq, ha'⟩ := List.mem_flatMap.mp ha
  unfold adrsP at ha'
  obtain ⟨wk, hwk, rfl⟩ := List.mem_map.mp ha'
  have hw : wk.1 ∈ q.2.2 := by
    obtain ⟨i, hi⟩ := List.mem_iff_getElem?.mp hwk
    rw [List.getElem?_zipIdx] at hi
    cases e : q.2.2[i]? with
    | none => rw [e] at hi; cases hi
    | some y =>
      rw [e] at hi
      have := Option.some.inj hi
      rw [← this]
      exact List.mem_of_getElem? e
  unfold ownA
  rw [List.all_eq_true]
  intro x hx
  obtain ⟨z, hz, e⟩ := h q hq wk.1 hw x.1 (List.mem_map.mpr ⟨x, hx, rfl⟩)
  rw [e]
  show (decide (sPiece = sPiece) && (valV (kindD qs') (.inr z)).isSome) = true
  obtain ⟨k, hk⟩ := kind_has hz
  rw [kind_val2, hk]
  simp
/-- the second word of the piece zz is the first that is wrong -/
theorem bad_zz {qa qb : List Pk} {u : List Key} (own : ∀ q ∈ qa, ∀ w ∈ q.2.2, ∀ x ∈ w.2.map (·.1), ∃ z ∈ (qa ++ mQ u :: qb).map (·.1), x = [.inr sPiece, .inr z]) (no : ownU (qa ++ mQ u :: qb) u = false) : badWord (qa ++ mQ u :: qb) = some (zz, 1, (5, [(u, 2)])) := by
  unfold badWord
  have e : adrs (qa ++ mQ u :: qb) = adrs qa ++ ((zz, 0, (0, [])) :: (zz, 1, (5, [(u, 2)])) :: ((zz, 2, (1, [(u, 1)])) :: adrs qb)) := by
    simp [adrs, adrsP, mQ, List.zipIdx]
  rw [e, List.find?_append, List.find?_eq_none.mpr, Option.none_or, List.find?_cons_of_neg, List.find?_cons_of_pos]
  · show (!([(u, 2)] : Mul).all fun q => ownU (qa ++ mQ u :: qb) q.1) = true
    simp [no]
  · simp [ownA]
  · intro a ha c
    rw [own_of own a ha] at c
    cases c
structure Nm4 (qs : List Pk) : Prop where
  nm : ∀ q ∈ qs, q.1 ∈ nm4
theorem Nm4.out {qs : List Pk} (h : Nm4 qs) {z : Str} (hz : z ∉ nm4) : z ∉ qs.map (·.1) := fun hm => by
  obtain ⟨q, hq, e⟩ := List.mem_map.mp hm
  exact hz (e ▸ h.nm q hq)
theorem zz_out : zz ∉ nm4 := by decide +kernel
theorem yy_out : yy ∉ nm4 := by decide +kernel
theorem ns_out : ("nosuch" : Str) ∉ nm4 := by decide +kernel
theorem ns_zz : ¬ ("nosuch" : Str) = zz := by decide +kernel
theorem ns_yy : ¬ ("nosuch" : Str) = yy := by decide +kernel
theorem zz_yy : ¬ zz = yy := by decide +kernel
/-- the pieces with zz among them -/
theorem gl_in {qs : List Pk} {k : Nat} {d : PyData} {u : List Key} (gl : GL qs) (n4 : Nm4 qs) (few : qs.length ≤ 8) (w : WrongD d u) : HdOk (.list (((qs.take k).map pkD ++ [mD d]) ++ (qs.drop k).map pkD)) (qs.take k ++ mQ u :: qs.drop k) ∧ badWord (qs.take k ++ mQ u :: qs.drop k) = some (zz, 1, (5, [(u, 2)])) := by
  have pm : (qs.take k ++ mQ u :: qs.drop k).Perm (mQ u :: qs) := by
    refine List.perm_middle.trans ?_
    rw [List.take_append_drop]
  have nd : ((qs.take k ++ mQ u :: qs.drop k).map (·.1)).Nodup := (pm.map _).nodup_iff.mpr (List.nodup_cons.mpr ⟨n4.out zz_out, gl.nod⟩)
  have sub : ∀ z ∈ qs.map (·.1), z ∈ (qs.take k ++ mQ u :: qs.drop k).map (·.1) := fun z hz => (pm.map (fun q : Pk => q.1)).mem_iff.mpr (List.mem_cons_of_mem _ hz)
  have ns : ("nosuch" : Str) ∉ (qs.take k ++ mQ u :: qs.drop k).map (·.1) := fun hm => by
    rcases List.mem_cons.mp ((pm.map (fun q : Pk => q.1)).mem_iff.mp hm) with e | e
    · exact absurd e ns_zz
    · exact n4.out ns_out e
  refine ⟨⟨⟨_, rfl, ?_⟩, ?_, fun q hq => ?_, nd⟩, bad_zz (fun q hq w hw x hx => ?_) (w.no _ ns)⟩
  · rw [List.append_assoc]
    exact each_app2 (pcd_each fun q hq => gl.each q (List.mem_of_mem_take hq)) (.cons (mD_ok w) (pcd_each fun q hq => gl.each q (List.mem_of_mem_drop hq)))
  · rw [pm.length_eq, List.length_cons]
    omega
  · rcases List.mem_cons.mp (pm.mem_iff.mp hq) with rfl | hq
    · show 3 ≤ 10
      decide
    · exact (gl.each q hq).few
  · obtain ⟨z, hz, e⟩ := gl.own q (List.mem_of_mem_take hq) w hw x hx
    exact ⟨z, sub z hz, e⟩
theorem gl_both {qs : List Pk} {d : PyData} {u : List Key} (gl : GL qs) (n4 : Nm4 qs) (few : qs.length ≤ 8) (w : WrongD d u) : HdOk (.list (qs.map pkD ++ [mD d, yD d])) (qs ++ mQ u :: [yQ u]) ∧ badWord (qs ++ mQ u :: [yQ u]) = some (zz, 1, (5, [(u, 2)])) := by
  have pm : (qs ++ mQ u :: [yQ u]).Perm (mQ u :: yQ u :: qs) := List.perm_middle.trans (List.Perm.cons _ (List.perm_append_singleton _ _))
  have nd : ((qs ++ mQ u :: [yQ u]).map (·.1)).Nodup := by
    refine (pm.map _).nodup_iff.mpr (List.nodup_cons.mpr ⟨fun h => ?_, List.nodup_cons.mpr ⟨n4.out yy_out, gl.nod⟩⟩)
    rcases List.mem_cons.mp h with e | e
    · exact absurd e zz_yy
    · exact n4.out zz_out e
  have ns : ("nosuch" : Str) ∉ (qs ++ mQ u :: [yQ u]).map (·.1) := fun hm => by
    rcases List.mem_cons.mp ((pm.map (fun q : Pk => q.1)).mem_iff.mp hm) with e | e
    · exact absurd e ns_zz
    rcases List.mem_cons.mp e with e | e
    · exact absurd e ns_yy
    · exact n4.out ns_out e
  refine ⟨⟨⟨_, rfl, ?_⟩, ?_, fun q hq => ?_, nd⟩, bad_zz (fun q hq w hw x hx => ?_) (w.no _ ns)⟩
  · exact each_app2 (pcd_each gl.each) (.cons (mD_ok w) (.cons (yD_ok w) .nil))
  · rw [pm.length_eq, List.length_cons, List.length_cons]
    omega
  · rcases List.mem_cons.mp (pm.mem_iff.mp hq) with rfl | hq
    · show 3 ≤ 10
      decide
    rcases List.mem_cons.mp hq with rfl | hq
    · show 1 ≤ 10
      decide
    · exact (gl.each q hq).few
  · obtain ⟨z, hz, e⟩ := gl.own q hq w hw x hx
    exact ⟨z, by rw [List.map_append]; exact List.mem_append_left _ hz, e⟩
end DR

namespace DR
open PySem PySem.Spec PyProof.Rows L2
/-! ### _law_refused_right: words that are none, run -/
/-- what is found and what is due -/
structure Rz (G0 : Hp) (K : PySem.W.Frag) (T' : List (Addr × Str)) (B : List Addr) (p M NL r u : Addr) (xs : List V) (qs : List Pk) (ds es : List PyData) (c : Nat) (H : Hp) : Prop where
  ry : Ry G0 T' B p M NL xs qs c H
  rB : r ∈ B
  rp : r ≠ p
  uB : u ∈ B
  up : u ≠ p
  ur : u ≠ r
  fd : Fd K B r ds H
  du : Fd K B u es H
  few : ds.length ≤ 60
  few2 : es.length ≤ 60
theorem Rz.ext {K : PySem.W.Frag} {G0 : Hp} {T' : List (Addr × Str)} {B : List Addr} {p M NL r u : Addr} {xs : List V} {qs : List Pk} {ds es : List PyData} {c : Nat} {H H' : Hp} (h : Rz G0 K T' B p M NL r u xs qs ds es c H) (e : LamX.ExtN H H') (t : LamX.Tabs T' H') : Rz G0 K T' B p M NL r u xs qs ds es c H' :=
  ⟨h.ry.ext e t, h.rB, h.rp, h.uB, h.up, h.ur, h.fd.ext e, h.du.ext e, h.few, h.few2⟩
theorem Rz.same {K : PySem.W.Frag} {G0 : Hp} {T' : List (Addr × Str)} {B : List Addr} {p M NL r u : Addr} {xs : List V} {qs : List Pk} {ds es : List PyData} {c : Nat} {H H' : Hp} (h : Rz G0 K T' B p M NL r u xs qs ds es c H) (e : Same H H') : Rz G0 K T' B p M NL r u xs qs ds es c H' := h.ext (.of e) (h.ry.tabs.ext e)
theorem Rz.dr {K : PySem.W.Frag} {G0 : Hp} {T' : List (Addr × Str)} {B : List Addr} {p M NL r u : Addr} {xs : List V} {qs : List Pk} {ds es : List PyData} {c c' : Nat} {H H' : Hp} (h : Rz G0 K T' B p M NL r u xs qs ds es c H) (d : Dr p H H') (hP : Pool H' p c') : Rz G0 K T' B p M NL r u xs qs ds es c' H' :=
  ⟨h.ry.dr d hP, h.rB, h.rp, h.uB, h.up, h.ur, h.fd.dr h.rp h.ry.pB d, h.du.dr h.up h.ry.pB d, h.few, h.few2⟩
/-- one more found -/
theorem Rz.app {K : PySem.W.Frag} {G0 : Hp} {T' : List (Addr × Str)} {B : List Addr} {p M NL r u : Addr} {xs : List V} {qs : List Pk} {ds es : List PyData} {d : PyData} {c : Nat} {v : V} {H : Hp} {σ : L2.St} {Nx : L2.St → Hp → Prop} (h : Rz G0 K T' B p M NL r u xs qs ds es c H) (l : ds.length < 60) (hv : Dp K (wx B H) v d)
    (q : ∀ H', Rz G0 K T' B p M NL r u xs qs (ds ++ [d]) es c H' → KpX B H H' → Nx σ H') : rAppend (.ref r) [v] H fun _ H' => Nx σ H' :=
  app_go h.ry h.rB h.rp h.fd (by omega) hv fun ys _ h1 F1 => q _ ⟨h1, h.rB, h.rp, h.uB, h.up, h.ur, F1, h.du.put h.rB h.ur, by simp; omega, h.few2⟩ (.put h.rB)
/-- what was met, found -/
theorem met1_go {K : PySem.W.Frag} {G0 : Hp} {T' : List (Addr × Str)} {B : List Addr} {p M NL r u d9 : Addr} {xs : List V} {qs : List Pk} {ds es : List PyData} {c : Nat} {z : Str} {v : V} {d : PyData} {H : Hp} {σ : L2.St} {Nx : L2.St → Hp → Prop} (h : Rz G0 K T' B p M NL r u xs qs ds es c H) (l : ds.length < 60) (hv : Dp K (wx B H) v d)
    (q : ∀ H', Rz G0 K T' B p M NL r u xs qs (ds ++ [.tuple [.str z, d]]) es c H' → KpX B H H' → Nx σ H') : Met1 z v H fun y H' => rAppend (.ref r) [y] H' fun _ H' => Nx σ H' := fun t9 n9 => by
  have j2 := same_new (o := .tup [V.str z, v]) n9
  have t9B := h.ry.bin.out n9
  exact (h.same j2).app l (.tup (SqT.of (by rw [wx_out t9B]; exact upd_same)) (.cons (.str _) (.cons (dp_same (wx_mono j2) hv) .nil))) fun H' h' k' => q H' h' ((KpX.of j2).trans k')
theorem met2_go {K : PySem.W.Frag} {G0 : Hp} {T' : List (Addr × Str)} {B : List Addr} {p M NL r u d9 : Addr} {xs : List V} {qs : List Pk} {ds es : List PyData} {c : Nat} {z : Str} {v x : V} {d e : PyData} {H : Hp} {σ : L2.St} {Nx : L2.St → Hp → Prop} (h : Rz G0 K T' B p M NL r u xs qs ds es c H) (l : ds.length < 60) (hv : Dp K (wx B H) v d) (hx : Dp K (wx B H) x e)
    (q : ∀ H', Rz G0 K T' B p M NL r u xs qs (ds ++ [.tuple [.str z, .tuple [d, e]]]) es c H' → KpX B H H' → Nx σ H') : Met2 z v x H fun y H' => rAppend (.ref r) [y] H' fun _ H' => Nx σ H' := fun t8 t9 n8 n9 => by
  have j1 := same_new (o := .tup [v, x]) n8
  have t8B := h.ry.bin.out n8
  have g1 : upd H t8 (.tup [v, x]) t8 = some (.tup [v, x]) := upd_same
  have h1 := h.same j1
  have v1 := dp_same (wx_mono j1) hv
  have x1 := dp_same (wx_mono j1) hx
  have K1 := KpX.of (B := B) j1
  generalize upd H t8 (.tup [v, x]) = H1 at j1 g1 h1 v1 x1 K1 n9 ⊢
  have j2 := same_new (o := .tup [V.str z, V.ref t8]) n9
  have t9B := h1.ry.bin.out n9
  exact (h1.same j2).app l (.tup (SqT.of (by rw [wx_out t9B]; exact upd_same)) (.cons (.str _) (.cons (.tup (SqT.of (by rw [wx_out t8B]; exact j2 _ _ g1)) (.cons (dp_same (wx_mono j2) v1) (.cons (dp_same (wx_mono j2) x1) .nil))) .nil))) fun H' h' k' => q H' h' (K1.trans ((KpX.of j2).trans k'))
section
variable {P : Program} {w : World} {K : PySem.W.Frag} {mg : Str → Option Value} {base : Heap} {C CB CW CS CN f c tw : Addr} {G0 : Hp} {T' : List (Addr × Str)} {A : Around} {outer : List Env} {s : Shared} {H0 : Hp} {E : XK}
theorem re6 (L : TRf P w K mg base C CB CW CS CN) (hr : Room 12 (XRe P w K mg base f c A outer s H0 E).A) : ∃ t, PS (XRe P w K mg base f c A outer s H0 E) (oR 6) t ∧
    ∀ (D : Ends) (B : List Addr) (H : Hp) (p M NL r u : Addr) (xs : List V) (q0 : Pk) (qs : List Pk) (ds es : List PyData) (cc : Nat) (o3 o4 o5 o6 o7 o8 o9 o10 : Option V), Rz G0 K T' B p M NL r u xs (q0 :: qs) ds es cc H → cc < 90000 → NmOk q0.1 →
      (∀ H' v d x, Rz G0 K T' B p M NL r u xs (q0 :: qs) ds es (cc + 1) H' → Dp K (wx B H') v d → WrongD d x → D.nx (sgR p M NL o3 o4 o5 (some v) o7 o8 o9 o10) H') → t D (sgR p M NL o3 o4 o5 o6 o7 o8 o9 o10) H := by
  refine ⟨_, (ps_set (i := 6) scRef.nd rfl (.inl rfl) (pe_callH L.one (hr.mono (by decide)) (by rfl) pass0 (pa_cons (pv 0) (pa_cons (pe_lst (pa_cons (pe_tup (pa_cons pe_str (pa_cons (pe_ix ix_list (pv 2) pe_int (fun _ _ => rfl)) pa_nil))) (pa_cons (pe_tup (pa_cons pe_str (pa_cons pe_str pa_nil))) (pa_cons (pe_tup (pa_cons pe_str (pa_cons pe_int pa_nil))) pa_nil)))) pa_nil)))), ?_⟩
  intro D B H p M NL r u xs q0 qs ds es cc o3 o4 o5 o6 o7 o8 o9 o10 h hc nm q
  have st : ∀ H H' : Hp, Same H H' → (H NL = some (.lst (((q0 :: qs).map (·.1)).map V.str))) → (H' NL = some (.lst (((q0 :: qs).map (·.1)).map V.str))) := fun H H' e z => e _ _ z
  refine ⟨_, rfl, ylst_go (K := K) (B := B) (F := fun H => H NL = some (.lst (((q0 :: qs).map (·.1)).map V.str))) (ds := [.tuple [.str "name", .str q0.1], .tuple [.str "piece", .str "nosuch"], .tuple [.str "in", .int 1]]) (mys_cons st (my_dat (mx_tup (mxs_cons st mx_str (mxs_cons st (fun H2 Q2 hF2 _ q2 => ⟨_, rfl, NL, _, _, _, rfl, rfl, SqL.of hF2, at_of (i := 0) rfl, q2 H2 _ (Same.refl _) (.str _)⟩) mxs_nil)) (by show 2 ≤ 1000; decide))) (mys_cons st (my_dat (mx_tup (mxs_cons st mx_str (mxs_cons st mx_str mxs_nil)) (by decide))) (mys_cons st (my_dat (mx_tup (mxs_cons st mx_str (mxs_cons st mx_int mxs_nil)) (by decide))) mys_nil))) h.ry.nms h.ry.bin (by show 3 ≤ 1000; decide) fun H1 a vs s1 na ha hvs => ?_⟩
  have h1 := h.same s1
  have lv : vs.length = 3 := hvs.length
  refine ⟨p, a, cc, vs, rfl, h1.ry.pool, by omega, .inl (SqL.of ha), pool_ne h.ry.pool na, by omega, by omega, fun v o hv hP => ?_⟩
  obtain ⟨d, hd, th⟩ := each_at hvs hv
  have d1 : Dr p H1 (upd H1 p o) := fun b x hb e => by rw [upd_ne hb]; exact e
  have th2 := th_ext (KpX.ext (.dr h1.ry.pB d1)) th
  simp only [List.mem_cons, List.not_mem_nil, or_false] at hd
  rcases hd with rfl | rfl | rfl
  · cases th2 with
    | dat h2 => exact q _ v _ _ (h1.dr d1 hP) h2 (wrong_name nm)
  · cases th2 with
    | dat h2 => exact q _ v _ _ (h1.dr d1 hP) h2 wrong_piece
  · cases th2 with
    | dat h2 => exact q _ v _ _ (h1.dr d1 hP) h2 wrong_in
theorem re7 : ∃ t, PS (XRe P w K mg base f c A outer s H0 E) (oR 7) t ∧
    ∀ (D : Ends) (B : List Addr) (H : Hp) (p M NL r u : Addr) (xs : List V) (qs : List Pk) (ds es : List PyData) (cc : Nat) (v : V) (d : PyData) (o3 o4 o5 o7 o8 o9 o10 : Option V), Rz G0 K T' B p M NL r u xs qs ds es cc H → Dp K (wx B H) v d →
      (∀ H' v9, Rz G0 K T' B p M NL r u xs qs ds es cc H' → Dp K (wx B H') v d → Dp K (wx B H') v9 (mD d) → D.nx (sgR p M NL o3 o4 o5 (some v) o7 o8 (some v9) o10) H') → t D (sgR p M NL o3 o4 o5 (some v) o7 o8 o9 o10) H := by
  refine ⟨_, (ps_set (i := 9) scRef.nd rfl (.inr rfl) (pe_tup (pa_cons pe_str (pa_cons pe_str (pa_cons (pe_lst (pa_cons (pe_tup (pa_cons pe_int (pa_cons (pe_tup pa_nil) pa_nil))) (pa_cons (pe_tup (pa_cons pe_int (pa_cons (pe_tup (pa_cons (pe_tup (pa_cons (pv 6) (pa_cons pe_int pa_nil))) pa_nil)) pa_nil))) (pa_cons (pe_tup (pa_cons pe_int (pa_cons (pe_tup (pa_cons (pe_tup (pa_cons (pv 6) (pa_cons pe_int pa_nil))) pa_nil)) pa_nil))) pa_nil)))) pa_nil))))), ?_⟩
  intro D B H p M NL r u xs qs ds es cc v d o3 o4 o5 o7 o8 o9 o10 h hv q
  have st : ∀ H H' : Hp, Same H H' → Dp K (wx B H) v d → Dp K (wx B H') v d := fun H H' e z => dp_same (wx_mono e) z
  have mv : MkX K B (sgR p M NL o3 o4 o5 (some v) o7 o8 o9 o10) (fun H => Dp K (wx B H) v d) (tVar 6) d := mx_var rfl fun _ z => z
  exact ((mx_tup (mxs_cons st mx_str (mxs_cons st mx_str (mxs_cons st (mx_lst (mxs_cons st (mx_tup (mxs_cons st mx_int (mxs_cons st (mx_tup mxs_nil (by decide)) mxs_nil)) (by decide)) (mxs_cons st (mx_tup (mxs_cons st mx_int (mxs_cons st (mx_tup (mxs_cons st (mx_tup (mxs_cons st mv (mxs_cons st mx_int mxs_nil)) (by show 2 ≤ 1000; decide)) mxs_nil) (by show 1 ≤ 1000; decide)) mxs_nil)) (by show 2 ≤ 1000; decide)) (mxs_cons st (mx_tup (mxs_cons st mx_int (mxs_cons st (mx_tup (mxs_cons st (mx_tup (mxs_cons st mv (mxs_cons st mx_int mxs_nil)) (by show 2 ≤ 1000; decide)) mxs_nil) (by show 1 ≤ 1000; decide)) mxs_nil)) (by show 2 ≤ 1000; decide)) mxs_nil))) (by show 3 ≤ 1000; decide)) mxs_nil))) (by show 3 ≤ 1000; decide)) : MkX K B (sgR p M NL o3 o4 o5 (some v) o7 o8 o9 o10) (fun H => Dp K (wx B H) v d) _ (mD d)) H _ hv h.ry.bin fun H1 v9 s1 h9 => q H1 v9 (h.same s1) (st _ _ s1 hv) h9
theorem re8 (L : TRf P w K mg base C CB CW CS CN) (TB : LamX.TabB base mg c tw) (hmT : (tw, qRef) ∈ T') (hu : ∀ p ∈ T', p.1 = tw → p.2 = qRef) (hr : Room 12 (XRe P w K mg base f c A outer s H0 E).A) : ∃ t, PS (XRe P w K mg base f c A outer s H0 E) (oR 8) t ∧
    ∀ (D : Ends) (B : List Addr) (H : Hp) (p M NL r u : Addr) (xs : List V) (qs : List Pk) (ds es : List PyData) (cc k : Nat) (v9 : V) (d : PyData) (x9 : List Key) (o3 o6 o8 o10 : Option V), Rz G0 K T' B p M NL r u xs qs ds es cc H → ds.length < 60 → GL qs → Nm4 qs → qs.length ≤ 8 → k ≤ qs.length → Dp K (wx B H) v9 (mD d) → WrongD d x9 →
      (∀ H', Rz G0 K T' B p M NL r u xs qs (ds ++ [wdE]) es cc H' → KpX B H H' → D.nx (sgR p M NL o3 (some (.ref r)) (some (.ref u)) o6 (some (.int (k : Nat))) o8 (some v9) o10) H') → t D (sgR p M NL o3 (some (.ref r)) (some (.ref u)) o6 (some (.int (k : Nat))) o8 (some v9) o10) H := by
  refine ⟨_, (ps_expr (pe_bm PySem.F.plainAttrs_list PySem.F.slot_list_append PySem.F.type_list_append mt_append (pv 4) (pa_cons (pe_met (k := 9) (t := fun E => tMake C (spImg K C CB CW CS) [] E (tCons (tOp rCat (tOp rCat (tSl (rSlL K) (tVar 1) tNoPart (L2.tPart (tVar 7))) (tLst (tCons (tVar 9) tNil))) (tSl (rSlL K) (tVar 1) (L2.tPart (tVar 7)) tNoPart)) (tCons (tC .non) tNil))) L.met (by rfl) TB rfl hmT hu (hr.mono (by decide)) (LamX.lamS_by (show LamX.lamSB (defScope sRef) _ = true by decide +kernel)) rfl (fun _ _ _ _ _ => rfl) fun A outer s H E f c' hr => (pe_makeI L.mki (hr.mono (by decide)) (by rfl) (passes_call (W := fun cls d _ H => E cls d H) (takes_of rfl rfl rfl rfl) (fun _ _ _ _ h => h)) (pa_cons (pe_op op_cat (pe_op op_cat (pe_slice sl_list (pv 1) po_none (po_some (pv 7))) (pe_lst (pa_cons (pv 9) pa_nil))) (pe_slice sl_list (pv 1) (po_some (pv 7)) po_none)) (pa_cons pe_non pa_nil)))) pa_nil))), ?_⟩
  intro D B H p M NL r u xs qs ds es cc k v9 d x9 o3 o6 o8 o10 h ld gl n4 few hk hv9 wd q
  obtain ⟨ys0, hr0, _⟩ := h.fd.ex
  refine ⟨_, rfl, .inl ⟨rfl, _, SqL.of hr0⟩, h.ry.tabs, fun H1 e1 t1 => ?_⟩
  have h1 := h.ext e1 t1
  have hv1 : Dp K (wx B H1) v9 (mD d) := dp_ext (KpX.ext (.ofN e1)) hv9
  have lx : xs.length = qs.length := h.ry.each.length
  refine ⟨_, rfl, _, rfl, k, rfl, M, xs, rfl, SqL.of h1.ry.lst, fun a1 n1 => ?_⟩
  rw [cut_to (by omega)]
  have k1 := same_new (o := .lst (xs.take k)) n1
  have g1 : upd H1 a1 (.lst (xs.take k)) a1 = some (.lst (xs.take k)) := upd_same
  generalize upd H1 a1 (.lst (xs.take k)) = H2 at k1 g1 ⊢
  refine ⟨_, rfl, (by show 1 ≤ sizeLine; decide), fun a2 n2 => ?_⟩
  have k2 := same_new (o := .lst [v9]) n2
  have g2 : upd H2 a2 (.lst [v9]) a2 = some (.lst [v9]) := upd_same
  generalize upd H2 a2 (.lst [v9]) = H3 at k2 g2 ⊢
  refine ⟨a1, a2, _, _, rfl, rfl, k2 _ _ g1, g2, Nat.le_of_lt (small1000 (by simp; omega)), fun a3 n3 => ?_⟩
  have k3 := same_new (o := .lst (xs.take k ++ [v9])) n3
  have g3 : upd H3 a3 (.lst (xs.take k ++ [v9])) a3 = some (.lst (xs.take k ++ [v9])) := upd_same
  generalize upd H3 a3 (.lst (xs.take k ++ [v9])) = H4 at k3 g3 ⊢
  have S4 := k1.trans (k2.trans k3)
  refine ⟨_, rfl, _, rfl, k, rfl, M, xs, rfl, SqL.of (S4 _ _ h1.ry.lst), fun a4 n4' => ?_⟩
  rw [cut_from (by omega)]
  have k4 := same_new (o := .lst (xs.drop k)) n4'
  have g4 : upd H4 a4 (.lst (xs.drop k)) a4 = some (.lst (xs.drop k)) := upd_same
  generalize upd H4 a4 (.lst (xs.drop k)) = H5 at k4 g4 ⊢
  refine ⟨a3, a4, _, _, rfl, rfl, k4 _ _ g3, g4, Nat.le_of_lt (small1000 (by simp; omega)), fun a5 n5 => ?_⟩
  have k5 := same_new (o := .lst ((xs.take k ++ [v9]) ++ xs.drop k)) n5
  have g5 : upd H5 a5 (.lst ((xs.take k ++ [v9]) ++ xs.drop k)) a5 = some (.lst ((xs.take k ++ [v9]) ++ xs.drop k)) := upd_same
  generalize upd H5 a5 (.lst ((xs.take k ++ [v9]) ++ xs.drop k)) = H6 at k5 g5 ⊢
  have S6 := S4.trans (k4.trans k5)
  have h6 := h1.same S6
  have each6 := h6.ry.each
  have dps : DpAll K H6 ((xs.take k ++ [v9]) ++ xs.drop k) (((qs.take k).map pkD ++ [mD d]) ++ (qs.drop k).map pkD) :=
    dps_app (dps_app (pieces_dp (each_take k each6)) (.cons (dp_same (wx_sub.trans S6) hv1) .nil)) (pieces_dp (each_drop k each6))
  obtain ⟨hd, bw⟩ := gl_in (k := k) gl n4 few wd
  refine fun x dx hx hdx hne => img_word (thE_of (.dat (.lst (SqL.of g5) dps))) (.dat .non) (fun x y e => by cases e) hd bw hx hdx hne fun H9 d9 s9 hd9 => ?_
  refine .word upd_same ?_
  have j1 := same_new (o := .xd [("k", .int ((1 : Nat) : Int)), ("p", .str zz)]) hd9
  exact met2_go (d9 := d9) (h6.same (s9.trans j1)) ld (.str _) (.int _) fun H' h' k' => q H' h' ((KpX.ofN (e1.trans (.of (S6.trans (s9.trans j1))))).trans k')
theorem re9 : ∃ t, PS (XRe P w K mg base f c A outer s H0 E) (oR 9) t ∧
    ∀ (D : Ends) (B : List Addr) (H : Hp) (p M NL r u : Addr) (xs : List V) (qs : List Pk) (ds es : List PyData) (cc : Nat) (v v9 : V) (d : PyData) (o3 o4 o5 o7 o8 o10 : Option V), Rz G0 K T' B p M NL r u xs qs ds es cc H → qs.length ≤ 8 → Dp K (wx B H) v d → Dp K (wx B H) v9 (mD d) →
      (∀ H' b8, Rz G0 K T' B p M NL r u xs qs ds es cc H' → Dp K (wx B H') (.ref b8) (.list (qs.map pkD ++ [mD d, yD d])) → D.nx (sgR p M NL o3 o4 o5 (some v) o7 (some (.ref b8)) (some v9) o10) H') → t D (sgR p M NL o3 o4 o5 (some v) o7 o8 (some v9) o10) H := by
  refine ⟨_, (ps_set (i := 8) scRef.nd rfl (.inr rfl) (pe_op op_cat (pv 1) (pe_lst (pa_cons (pv 9) (pa_cons (pe_tup (pa_cons pe_str (pa_cons pe_str (pa_cons (pe_lst (pa_cons (pe_tup (pa_cons pe_int (pa_cons (pe_tup (pa_cons (pe_tup (pa_cons (pv 6) (pa_cons pe_int pa_nil))) pa_nil)) pa_nil))) pa_nil)) pa_nil)))) pa_nil))))), ?_⟩
  intro D B H p M NL r u xs qs ds es cc v v9 d o3 o4 o5 o7 o8 o10 h few hv hv9 q
  have st : ∀ H H' : Hp, Same H H' → (Dp K (wx B H) v d ∧ Dp K (wx B H) v9 (mD d)) → (Dp K (wx B H') v d ∧ Dp K (wx B H') v9 (mD d)) := fun H H' e z => ⟨dp_same (wx_mono e) z.1, dp_same (wx_mono e) z.2⟩
  have mv : MkX K B (sgR p M NL o3 o4 o5 (some v) o7 o8 (some v9) o10) (fun H => Dp K (wx B H) v d ∧ Dp K (wx B H) v9 (mD d)) (tVar 6) d := mx_var rfl fun _ z => z.1
  have mv9 : MkX K B (sgR p M NL o3 o4 o5 (some v) o7 o8 (some v9) o10) (fun H => Dp K (wx B H) v d ∧ Dp K (wx B H) v9 (mD d)) (tVar 9) (mD d) := mx_var rfl fun _ z => z.2
  have lx : xs.length = qs.length := h.ry.each.length
  have two : MkXs K B (sgR p M NL o3 o4 o5 (some v) o7 o8 (some v9) o10) (fun H => Dp K (wx B H) v d ∧ Dp K (wx B H) v9 (mD d)) _ [mD d, yD d] := mxs_cons st mv9 (mxs_cons st (mx_tup (mxs_cons st mx_str (mxs_cons st mx_str (mxs_cons st (mx_lst (mxs_cons st (mx_tup (mxs_cons st mx_int (mxs_cons st (mx_tup (mxs_cons st (mx_tup (mxs_cons st mv (mxs_cons st mx_int mxs_nil)) (by show 2 ≤ 1000; decide)) mxs_nil) (by show 1 ≤ 1000; decide)) mxs_nil)) (by show 2 ≤ 1000; decide)) mxs_nil) (by show 1 ≤ 1000; decide)) mxs_nil))) (by show 3 ≤ 1000; decide)) mxs_nil)
  refine ⟨_, rfl, two H _ ⟨hv, hv9⟩ h.ry.bin fun H1 vs s1 hvs => ⟨?_, fun a1 n1 => ?_⟩⟩
  · have := dps_len2 hvs
    exact Nat.le_of_lt (small1000 (by rw [this]; show 2 ≤ 1000; decide))
  have lv : vs.length = 2 := dps_len2 hvs
  have k1 := same_new (o := .lst vs) n1
  have g1 : upd H1 a1 (.lst vs) a1 = some (.lst vs) := upd_same
  have hvs2 := dps_same (wx_mono (B := B) k1) hvs
  generalize upd H1 a1 (.lst vs) = H2 at k1 g1 hvs2 ⊢
  have h2 := h.same (s1.trans k1)
  refine ⟨M, a1, xs, vs, rfl, rfl, h2.ry.lst, g1, Nat.le_of_lt (small1000 (by omega)), fun b8 n8 => ?_⟩
  have k8 := same_new (o := .lst (xs ++ vs)) n8
  have h8 := h2.same k8
  refine q _ b8 h8 (.lst (SqL.of (wx_new h2.ry.bin n8)) (dps_app (pieces_dp h8.ry.rx.each) (dps_same (wx_mono k8) hvs2)))
theorem re10 (L : TRf P w K mg base C CB CW CS CN) (TB : LamX.TabB base mg c tw) (hmT : (tw, qRef) ∈ T') (hu : ∀ p ∈ T', p.1 = tw → p.2 = qRef) (hr : Room 12 (XRe P w K mg base f c A outer s H0 E).A) : ∃ t, PS (XRe P w K mg base f c A outer s H0 E) (oR 10) t ∧
    ∀ (D : Ends) (B : List Addr) (H : Hp) (p M NL r u b8 : Addr) (xs : List V) (qs : List Pk) (ds es : List PyData) (cc : Nat) (d : PyData) (x9 : List Key) (o3 o6 o7 o9 o10 : Option V), Rz G0 K T' B p M NL r u xs qs ds es cc H → ds.length < 60 → GL qs → Nm4 qs → qs.length ≤ 8 → Dp K (wx B H) (.ref b8) (.list (qs.map pkD ++ [mD d, yD d])) → WrongD d x9 →
      (∀ H', Rz G0 K T' B p M NL r u xs qs (ds ++ [wdE]) es cc H' → D.nx (sgR p M NL o3 (some (.ref r)) (some (.ref u)) o6 o7 (some (.ref b8)) o9 o10) H') → t D (sgR p M NL o3 (some (.ref r)) (some (.ref u)) o6 o7 (some (.ref b8)) o9 o10) H := by
  refine ⟨_, (ps_expr (pe_bm PySem.F.plainAttrs_list PySem.F.slot_list_append PySem.F.type_list_append mt_append (pv 4) (pa_cons (pe_met (k := 9) (t := fun E => tMake C (spImg K C CB CW CS) [] E (tCons (tVar 8) (tCons (tC .non) tNil))) L.met (by rfl) TB rfl hmT hu (hr.mono (by decide)) (LamX.lamS_by (show LamX.lamSB (defScope sRef) _ = true by decide +kernel)) rfl (fun _ _ _ _ _ => rfl) fun A outer s H E f c' hr => (pe_makeI L.mki (hr.mono (by decide)) (by rfl) (passes_call (W := fun cls d _ H => E cls d H) (takes_of rfl rfl rfl rfl) (fun _ _ _ _ h => h)) (pa_cons (pv 8) (pa_cons pe_non pa_nil)))) pa_nil))), ?_⟩
  intro D B H p M NL r u b8 xs qs ds es cc d x9 o3 o6 o7 o9 o10 h ld gl n4 few hv8 wd q
  obtain ⟨ys0, hr0, _⟩ := h.fd.ex
  refine ⟨_, rfl, .inl ⟨rfl, _, SqL.of hr0⟩, h.ry.tabs, fun H1 e1 t1 => ?_⟩
  have h1 := h.ext e1 t1
  have hv1 : Dp K H1 (.ref b8) (.list (qs.map pkD ++ [mD d, yD d])) := dp_same wx_sub (dp_ext (KpX.ext (.ofN e1)) hv8)
  obtain ⟨hd, bw⟩ := gl_both gl n4 few wd
  refine ⟨_, rfl, fun x dx hx hdx hne => img_word (thE_of (.dat hv1)) (.dat .non) (fun x y e => by cases e) hd bw hx hdx hne fun H9 d9 s9 hd9 => ?_⟩
  refine .word upd_same ?_
  have j1 := same_new (o := .xd [("k", .int ((1 : Nat) : Int)), ("p", .str zz)]) hd9
  exact met2_go (d9 := d9) (h1.same (s9.trans j1)) ld (.str _) (.int _) fun H' h' _ => q H' h'
theorem re11 : ∃ t, PS (XRe P w K mg base f c A outer s H0 E) (oR 11) t ∧
    ∀ (D : Ends) (B : List Addr) (H : Hp) (p M NL r u : Addr) (xs : List V) (qs : List Pk) (ds es : List PyData) (cc : Nat) (o3 o4 o6 o7 o8 o9 o10 : Option V), Rz G0 K T' B p M NL r u xs qs ds es cc H → es.length ≤ 50 →
      (∀ H' u', Rz G0 K T' (u' :: B) p M NL r u' xs qs ds (es ++ [pcE 0, wdE, wdE]) cc H' → D.nx (sgR p M NL o3 o4 (some (.ref u')) o6 o7 o8 o9 o10) H') → t D (sgR p M NL o3 o4 (some (.ref u)) o6 o7 o8 o9 o10) H := by
  refine ⟨_, (ps_set (i := 5) scRef.nd rfl (.inl rfl) (pe_op op_cat (pv 5) (pe_lst (pa_cons (pe_tup (pa_cons pe_str (pa_cons pe_int pa_nil))) (pa_cons (pe_tup (pa_cons pe_str (pa_cons (pe_tup (pa_cons pe_str (pa_cons pe_int pa_nil))) pa_nil))) (pa_cons (pe_tup (pa_cons pe_str (pa_cons (pe_tup (pa_cons pe_str (pa_cons pe_int pa_nil))) pa_nil))) pa_nil)))))), ?_⟩
  intro D B H p M NL r u xs qs ds es cc o3 o4 o6 o7 o8 o9 o10 h le q
  have st : ∀ H H' : Hp, Same H H' → True → True := fun _ _ _ z => z
  have three : MkXs K B (sgR p M NL o3 o4 (some (.ref u)) o6 o7 o8 o9 o10) (fun _ => True) _ [pcE 0, wdE, wdE] := mxs_cons st (mx_tup (mxs_cons st mx_str (mxs_cons st mx_int mxs_nil)) (by decide)) (mxs_cons st (mx_tup (mxs_cons st mx_str (mxs_cons st (mx_tup (mxs_cons st mx_str (mxs_cons st mx_int mxs_nil)) (by decide)) mxs_nil)) (by decide)) (mxs_cons st (mx_tup (mxs_cons st mx_str (mxs_cons st (mx_tup (mxs_cons st mx_str (mxs_cons st mx_int mxs_nil)) (by decide)) mxs_nil)) (by decide)) mxs_nil))
  refine ⟨_, rfl, three H _ trivial h.ry.bin fun H1 vs s1 hvs => ⟨?_, fun a1 n1 => ?_⟩⟩
  · have := dps_len2 hvs
    exact Nat.le_of_lt (small1000 (by rw [this]; show 3 ≤ 1000; decide))
  have lv : vs.length = 3 := dps_len2 hvs
  have k1 := same_new (o := .lst vs) n1
  have g1 : upd H1 a1 (.lst vs) a1 = some (.lst vs) := upd_same
  have hvs2 := dps_same (wx_mono (B := B) k1) hvs
  generalize upd H1 a1 (.lst vs) = H2 at k1 g1 hvs2 ⊢
  have h2 := h.same (s1.trans k1)
  obtain ⟨ys, hu, hys⟩ := h2.du.ex
  have ly := dps_len2 hys
  refine ⟨u, a1, ys, vs, rfl, rfl, hu, g1, Nat.le_of_lt (small1000 (by omega)), fun u' n8 => ?_⟩
  have k8 := same_new (o := .lst (ys ++ vs)) n8
  have ru : r ≠ u' := fun z => by
    obtain ⟨zs, y, _⟩ := h2.fd.ex
    rw [z, n8] at y; cases y
  refine q _ u' ⟨h2.ry.more n8, List.mem_cons_of_mem _ h.rB, h.rp, List.mem_cons_self .., pool_ne h2.ry.pool n8, ru.symm, h2.fd.more n8, ⟨ys ++ vs, upd_same, dps_ext (KpX.more n8 (.of k8)) (dps_app hys hvs2)⟩, h.few, by simp; omega⟩
end
end DR

namespace DR
open PySem PySem.Spec PyProof.Rows L2
/-! ### _law_refused_right: starts that are none -/
def zD : PyData := .tuple [.str "zz", .str "data", .list [.int 1]]
def zQ : Pk := (zz, "data", [(1, [])])
def stE (d : PyData) : PyData := .tuple [.str "start", d]
theorem zD_ok : PcD zD zQ :=
  (show PSh zD zQ from ⟨_, _, rfl, rfl, .cons (bare_word (wd_bare (by unfold Sz; decide)) rfl) .nil⟩).pc zz_ok (by show ("data" : Str) ∈ kinds2; decide +kernel) (by show 1 ≤ 10; decide)
theorem gl_zz {qs : List Pk} (gl : GL qs) (n4 : Nm4 qs) (few : qs.length ≤ 8) : HdOk (.list (qs.map pkD ++ [zD])) (qs ++ [zQ]) ∧ badWord (qs ++ [zQ]) = none := by
  have pm : (qs ++ [zQ]).Perm (zQ :: qs) := List.perm_append_singleton _ _
  have nd : ((qs ++ [zQ]).map (·.1)).Nodup := (pm.map _).nodup_iff.mpr (List.nodup_cons.mpr ⟨n4.out zz_out, gl.nod⟩)
  refine ⟨⟨⟨_, rfl, each_app2 (pcd_each gl.each) (.cons zD_ok .nil)⟩, ?_, fun q hq => ?_, nd⟩, own_none fun q hq w hw u hu => ?_⟩
  · rw [pm.length_eq, List.length_cons]
    omega
  · rcases List.mem_cons.mp (pm.mem_iff.mp hq) with rfl | hq
    · show 1 ≤ 10
      decide
    · exact (gl.each q hq).few
  · rcases List.mem_cons.mp (pm.mem_iff.mp hq) with rfl | hq
    · have : w = (1, []) := List.mem_singleton.mp hw
      rw [this] at hu
      cases hu
    · obtain ⟨z, hz, e⟩ := gl.own q hq w hw u hu
      exact ⟨z, by rw [List.map_append]; exact List.mem_append_left _ hz, e⟩
/-- no start -/
structure BadS (qs : List Pk) (sd : PyData) : Prop where
  ok : okAd sd
  no : ∀ a, readAdr sd = some a → startB (qs ++ [zQ]) a = false
theorem bads_no {qs : List Pk} {sd : PyData} (h1 : okAd sd) (h2 : readAdr sd = none) : BadS qs sd := ⟨h1, fun a e => by rw [h2] at e; cases e⟩
theorem bads_pair {qs : List Pk} {z : Str} {n : Int} (h : NmOk z) (no : startB (qs ++ [zQ]) (z, n) = false) : BadS qs (.tuple [.str z, .int n]) := ⟨ok_ad h, fun a e => by
  rw [rd_ad h.nm] at e
  rw [← Option.some.inj e]
  exact no⟩
theorem start_far {qs : List Pk} {z : Str} {n : Int} (h : ∀ a ∈ adrs qs, a.1 = z → ((a.2.1 : Nat) : Int) ≠ n) : startB qs (z, n) = false := by
  unfold startB
  have : ((adrs qs).any fun x => decide (adrK x = keyA (z, n))) = false := by
    rw [List.any_eq_false]
    intro a ha c
    have c := of_decide_eq_true c
    have c0 := congrArg (fun z : List Key => z[0]?) c
    have c1 := congrArg (fun z : List Key => z[1]?) c
    have c0 : a.1 = z := by simpa [adrK, keyA] using c0
    have c1 : ((a.2.1 : Nat) : Int) = n := by simpa [adrK, keyA] using c1
    exact h a ha c0 c1
  rw [this]
  rfl
def stL (z : Str) (n : Int) : List PyData := [.none, .int 5, .tuple [], .str z, .tuple [.str z], .tuple [.str "zz", .int 0], .tuple [.str z, .int (-1)], .tuple [.str z, .int 9], .tuple [.str z, .bool true], .list [.str "a", .str "b"], .tuple [.str z, .int 0, .int 0], .tuple [.str z, .int n]]
theorem stL_bad {q0 : Pk} {qs : List Pk} (gl : GL (q0 :: qs)) (n4 : Nm4 (q0 :: qs)) (l9 : q0.2.2.length ≤ 9) : ∀ d ∈ stL q0.1 (q0.2.2.length : Nat), BadS (q0 :: qs) d := by
  have nm := (gl.each q0 (List.mem_cons_self ..)).nm
  have pm : ((q0 :: qs) ++ [zQ]).Perm (zQ :: (q0 :: qs)) := List.perm_append_singleton _ _
  have nd : (((q0 :: qs) ++ [zQ]).map (·.1)).Nodup := (pm.map _).nodup_iff.mpr (List.nodup_cons.mpr ⟨n4.out zz_out, gl.nod⟩)
  have inn : ∀ a ∈ adrs ((q0 :: qs) ++ [zQ]), a.1 = q0.1 → a.2.1 < q0.2.2.length := fun a ha e => adr_in nd (List.mem_append_left _ (List.mem_cons_self ..)) ha e
  have okn : ∀ {d : PyData}, items d = none → okAd d := fun e x y e' => by rw [e] at e'; cases e'
  intro d hd
  unfold stL at hd
  simp only [List.mem_cons, List.not_mem_nil, or_false] at hd
  rcases hd with rfl | rfl | rfl | rfl | rfl | rfl | rfl | rfl | rfl | rfl | rfl | rfl
  · exact bads_no (okn rfl) rfl
  · exact bads_no (okn rfl) rfl
  · exact bads_no (fun x y e => by cases e) rfl
  · exact bads_no (okn rfl) rfl
  · exact bads_no (fun x y e => by cases e) rfl
  · refine bads_pair (z := zz) zz_ok ?_
    unfold startB
    have : kindOf ((q0 :: qs) ++ [zQ]) zz = some zQ.2.1 := kind_mem nd (q := zQ) (List.mem_append_right _ (List.mem_singleton.mpr rfl))
    rw [this]
    rw [show ∀ b : Bool, (b && decide (some zQ.2.1 = (do
          let a ← some "code"
          pure (Str.ofString a)))) = false from fun b => by
      rw [show decide (some zQ.2.1 = (do
          let a ← some "code"
          pure (Str.ofString a))) = false from by decide +kernel]
      simp]
  · exact bads_pair nm (start_far fun a _ _ => by omega)
  · exact bads_pair nm (start_far fun a ha e => by have := inn a ha e; omega)
  · refine bads_no (fun x y e => ?_) rfl
    have e := Option.some.inj (show some [PyData.str q0.1, .bool true] = some [x, y] from e)
    rw [← (List.cons.inj e).1]
    exact nm.sh
  · refine bads_no (fun x y e => ?_) rfl
    have e := Option.some.inj (show some [PyData.str "a", .str "b"] = some [x, y] from e)
    rw [← (List.cons.inj e).1]
    show (Str.ofString "a").length ≤ 1000
    decide +kernel
  · exact bads_no (fun x y e => by cases e) rfl
  · exact bads_pair nm (start_far fun a ha e => by have := inn a ha e; omega)
section
variable {P : Program} {w : World} {K : PySem.W.Frag} {mg : Str → Option Value} {base : Heap} {C CB CW CS CN f c tw : Addr} {G0 : Hp} {T' : List (Addr × Str)} {A : Around} {outer : List Env} {s : Shared} {H0 : Hp} {E : XK}
theorem re12 (L : TRf P w K mg base C CB CW CS CN) (TB : LamX.TabB base mg c tw) (hmT : (tw, qRef) ∈ T') (hu : ∀ p ∈ T', p.1 = tw → p.2 = qRef) (hr : Room 12 (XRe P w K mg base f c A outer s H0 E).A) : ∃ t, PS (XRe P w K mg base f c A outer s H0 E) (oR12 0) t ∧
    ∀ (D : Ends) (B : List Addr) (H : Hp) (p M NL r u : Addr) (xs : List V) (qs : List Pk) (ds es : List PyData) (cc : Nat) (sv : V) (sd : PyData) (o6 o7 o8 o9 o10 : Option V), Rz G0 K T' B p M NL r u xs qs ds es cc H → ds.length < 60 → GL qs → Nm4 qs → qs.length ≤ 8 → Dp K (wx B H) sv sd → BadS qs sd →
      (∀ H', Rz G0 K T' B p M NL r u xs qs (ds ++ [stE sd]) es cc H' → KpX B H H' → D.nx (sgR p M NL (some sv) (some (.ref r)) (some (.ref u)) o6 o7 o8 o9 o10) H') → t D (sgR p M NL (some sv) (some (.ref r)) (some (.ref u)) o6 o7 o8 o9 o10) H := by
  refine ⟨_, (ps_expr (pe_bm PySem.F.plainAttrs_list PySem.F.slot_list_append PySem.F.type_list_append mt_append (pv 4) (pa_cons (pe_met (k := 9) (t := fun E => tMake C (spImg K C CB CW CS) [] E (tCons (tOp rCat (tVar 1) (tLst (tCons (tTup (tCons (tC (.str "zz")) (tCons (tC (.str "data")) (tCons (tLst (tCons (tC (.int 1)) tNil)) tNil)))) tNil))) (tCons (tVar 3) tNil))) L.met (by rfl) TB rfl hmT hu (hr.mono (by decide)) (LamX.lamS_by (show LamX.lamSB (defScope sRef) _ = true by decide +kernel)) rfl (fun _ _ _ _ _ => rfl) fun A outer s H E f c' hr => (pe_makeI L.mki (hr.mono (by decide)) (by rfl) (passes_call (W := fun cls d _ H => E cls d H) (takes_of rfl rfl rfl rfl) (fun _ _ _ _ h => h)) (pa_cons (pe_op op_cat (pv 1) (pe_lst (pa_cons (pe_tup (pa_cons pe_str (pa_cons pe_str (pa_cons (pe_lst (pa_cons pe_int pa_nil)) pa_nil)))) pa_nil))) (pa_cons (pv 3) pa_nil)))) pa_nil))), ?_⟩
  intro D B H p M NL r u xs qs ds es cc sv sd o6 o7 o8 o9 o10 h ld gl n4 few hv bs q
  obtain ⟨ys0, hr0, _⟩ := h.fd.ex
  refine ⟨_, rfl, .inl ⟨rfl, _, SqL.of hr0⟩, h.ry.tabs, fun H1 e1 t1 => ?_⟩
  have h1 := h.ext e1 t1
  have hv1 : Dp K (wx B H1) sv sd := dp_ext (KpX.ext (.ofN e1)) hv
  have lx : xs.length = qs.length := h.ry.each.length
  refine ⟨_, rfl, (by show 1 ≤ sizeLine; decide), fun a1 n1 => ?_⟩
  have k1 := same_new (o := .lst [V.int 1]) n1
  have g1 : upd H1 a1 (.lst [V.int 1]) a1 = some (.lst [V.int 1]) := upd_same
  generalize upd H1 a1 (.lst [V.int 1]) = H2 at k1 g1 ⊢
  refine ⟨(by show 3 ≤ sizeLine; decide), fun a2 n2 => ?_⟩
  have k2 := same_new (o := .tup [V.str "zz", V.str "data", V.ref a1]) n2
  have g2 : upd H2 a2 (.tup [V.str "zz", V.str "data", V.ref a1]) a2 = some (.tup [V.str "zz", V.str "data", V.ref a1]) := upd_same
  generalize upd H2 a2 (.tup [V.str "zz", V.str "data", V.ref a1]) = H3 at k2 g2 ⊢
  refine ⟨(by show 1 ≤ sizeLine; decide), fun a3 n3 => ?_⟩
  have k3 := same_new (o := .lst [V.ref a2]) n3
  have g3 : upd H3 a3 (.lst [V.ref a2]) a3 = some (.lst [V.ref a2]) := upd_same
  generalize upd H3 a3 (.lst [V.ref a2]) = H4 at k3 g3 ⊢
  have S4 := k1.trans (k2.trans k3)
  refine ⟨M, a3, xs, [V.ref a2], rfl, rfl, S4 _ _ h1.ry.lst, g3, Nat.le_of_lt (small1000 (by simp; omega)), fun a4 n4' => ?_⟩
  have k4 := same_new (o := .lst (xs ++ [V.ref a2])) n4'
  have g4 : upd H4 a4 (.lst (xs ++ [V.ref a2])) a4 = some (.lst (xs ++ [V.ref a2])) := upd_same
  generalize upd H4 a4 (.lst (xs ++ [V.ref a2])) = H5 at k4 g4 ⊢
  have S5 := S4.trans k4
  have h5 := h1.same S5
  have dps : DpAll K H5 (xs ++ [V.ref a2]) (qs.map pkD ++ [zD]) := dps_app (pieces_dp h5.ry.each) (.cons (.tup (SqT.of (k4 _ _ (k3 _ _ g2))) (.cons (.str _) (.cons (.str _) (.cons (.lst (SqL.of (k4 _ _ (k3 _ _ (k2 _ _ g1)))) (.cons (.int _) .nil)) .nil)))) .nil)
  obtain ⟨hd, bw⟩ := gl_zz gl n4 few
  have hv5 := dp_same (wx_mono (B := B) S5) hv1
  refine ⟨_, rfl, fun x dx hx hdx hne => img_start (thE_of (.dat (.lst (SqL.of g4) dps))) (.dat (dp_same wx_sub hv5)) bs.ok hd bw bs.no hx hdx hne fun H9 d9 s9 hd9 => ?_⟩
  refine .start upd_same ?_
  have j1 := same_new (o := .xd [("address", sv)]) hd9
  have j := s9.trans j1
  exact met1_go (d9 := d9) (h5.same j) ld (dp_same (wx_mono j) hv5) fun H' h' k' => q H' h' ((KpX.ofN (e1.trans (.of (S5.trans j)))).trans k')
theorem re12b : ∃ t, PS (XRe P w K mg base f c A outer s H0 E) (oR12 1) t ∧
    ∀ (D : Ends) (B : List Addr) (H : Hp) (p M NL r u : Addr) (xs : List V) (qs : List Pk) (ds es : List PyData) (cc : Nat) (sv : V) (sd : PyData) (o4 o6 o7 o8 o9 o10 : Option V), Rz G0 K T' B p M NL r u xs qs ds es cc H → es.length < 60 → Dp K (wx B H) sv sd →
      (∀ H', Rz G0 K T' B p M NL r u xs qs ds (es ++ [stE sd]) cc H' → KpX B H H' → D.nx (sgR p M NL (some sv) o4 (some (.ref u)) o6 o7 o8 o9 o10) H') → t D (sgR p M NL (some sv) o4 (some (.ref u)) o6 o7 o8 o9 o10) H := by
  refine ⟨_, (ps_expr (pe_bm PySem.F.plainAttrs_list PySem.F.slot_list_append PySem.F.type_list_append mt_append (pv 5) (pa_cons (pe_tup (pa_cons pe_str (pa_cons (pv 3) pa_nil))) pa_nil))), ?_⟩
  intro D B H p M NL r u xs qs ds es cc sv sd o4 o6 o7 o8 o9 o10 h le hv q
  obtain ⟨ys0, hu0, _⟩ := h.du.ex
  refine ⟨_, rfl, .inl ⟨rfl, _, SqL.of hu0⟩, _, rfl, (by show 2 ≤ sizeLine; decide), fun a1 n1 => ?_⟩
  have k1 := same_new (o := .tup [V.str "start", sv]) n1
  have h1 := h.same k1
  have a1B := h.ry.bin.out n1
  have d1 : Dp K (wx B (upd H a1 (.tup [V.str "start", sv]))) (.ref a1) (stE sd) := .tup (SqT.of (by rw [wx_out a1B]; exact upd_same)) (.cons (.str _) (.cons (dp_same (wx_mono k1) hv) .nil))
  generalize upd H a1 (.tup [V.str "start", sv]) = H1 at k1 h1 d1 ⊢
  exact app_go h1.ry h.uB h.up h1.du (by omega) d1 fun ys hy h2 F2 => q _ ⟨h2, h.rB, h.rp, h.uB, h.up, h.ur, h1.fd.put h.uB h.ur.symm, F2, h.few, by simp; omega⟩ ((KpX.of k1).trans (.put h.uB))
end
end DR

namespace DR
open PySem PySem.Spec PyProof.Rows L2
section
variable {P : Program} {w : World} {K : PySem.W.Frag} {mg : Str → Option Value} {base : Heap} {C CB CW CS CN f c tw : Addr} {G0 : Hp} {T' : List (Addr × Str)} {A : Around} {outer : List Env} {s : Shared} {H0 : Hp} {E : XK}
abbrev tZ (K : PySem.W.Frag) : TE := tOp (rIxL K) (tVar 2) (tC (.int 0))
abbrev tL (K : PySem.W.Frag) : TE := tCB (rLenV K) (tCons (tOp (rIxT K) (tOp (rIxL K) (tVar 1) (tC (.int 0))) (tC (.int 2))) tNil)
abbrev tStarts (K : PySem.W.Frag) : TA := tCons (tC .non) (tCons (tC (.int 5)) (tCons (tTup tNil) (tCons (tZ K) (tCons (tTup (tCons (tZ K) tNil)) (tCons (tTup (tCons (tC (.str "zz")) (tCons (tC (.int 0)) tNil))) (tCons (tTup (tCons (tZ K) (tCons (tUn (rU fun i => .int (-i)) (tC (.int 1))) tNil))) (tCons (tTup (tCons (tZ K) (tCons (tC (.int 9)) tNil))) (tCons (tTup (tCons (tZ K) (tCons (tC (.bl true)) tNil))) (tCons (tLst (tCons (tC (.str "a")) (tCons (tC (.str "b")) tNil))) (tCons (tTup (tCons (tZ K) (tCons (tC (.int 0)) (tCons (tC (.int 0)) tNil)))) (tCons (tTup (tCons (tZ K) (tCons (tL K) tNil))) tNil)))))))))))
theorem st_all {B : List Addr} {σ : L2.St} {F : Hp → Prop} {z : Str} {n : Int} (st : ∀ H H', Same H H' → F H → F H') (mz : MkX K B σ F (tZ K) (.str z)) (ml : MkX K B σ F (tL K) (.int n)) : MkXs K B σ F (tStarts K) (stL z n) := by
  unfold stL
  exact mxs_cons st mx_non (mxs_cons st mx_int (mxs_cons st (mx_tup mxs_nil (by decide)) (mxs_cons st mz (mxs_cons st (mx_tup (mxs_cons st mz mxs_nil) (by show 1 ≤ 1000; decide)) (mxs_cons st (mx_tup (mxs_cons st mx_str (mxs_cons st mx_int mxs_nil)) (by decide)) (mxs_cons st (mx_tup (mxs_cons st mz (mxs_cons st mx_neg mxs_nil)) (by show 2 ≤ 1000; decide)) (mxs_cons st (mx_tup (mxs_cons st mz (mxs_cons st mx_int mxs_nil)) (by show 2 ≤ 1000; decide)) (mxs_cons st (mx_tup (mxs_cons st mz (mxs_cons st mx_bl mxs_nil)) (by show 2 ≤ 1000; decide)) (mxs_cons st (mx_lst (mxs_cons st mx_str (mxs_cons st mx_str mxs_nil)) (by decide)) (mxs_cons st (mx_tup (mxs_cons st mz (mxs_cons st mx_int (mxs_cons st mx_int mxs_nil))) (by show 3 ≤ 1000; decide)) (mxs_cons st (mx_tup (mxs_cons st mz (mxs_cons st ml mxs_nil)) (by show 2 ≤ 1000; decide)) mxs_nil)))))))))))
/-- a for over a written tuple of data -/
theorem for_wr {B : List Addr} {σ : L2.St} {F : Hp → Prop} {t : TA} {ds : List PyData} {g : TG} {tb : TS} {D : Ends} {H : Hp} (h : MkXs K B σ F t ds) (hF : F H) (hB : BIn B H) (l : ds.length ≤ 1000)
    (q : ∀ H' tp vs, Same H H' → H' tp = some (.tup vs) → tp ∉ B → DpAll K (wx B H') vs ds → ∃ W : Nat → Nat → L2.St → Hp → Prop, (∃ m, W 0 m σ H') ∧ ∀ i m σ H, W i m σ H →
      ((Itt K tp).stop i H ∧ D.nx σ H) ∨ ((Itt K tp).go i H ∧ ∃ N : L2.St → Hp → Prop, (∀ σ' H', N σ' H' → ∃ m', m' < m ∧ W (i + 1) m' σ' H') ∧ ∀ x H', (Itt K tp).yld i H x H' → g x σ H' fun σ2 H2 => tb { D with nx := N, ct := N, bk := D.nx } σ2 H2)) : tFor (iTup K (tTup t)) g tb D σ H :=
  h H _ hF hB fun H1 vs s1 hvs => ⟨Nat.le_of_lt (small1000 (by rw [dps_len2 hvs]; exact l)), fun p hp => ⟨p, rfl, ⟨vs, SqT.of upd_same⟩, q _ p vs (s1.trans (same_new hp)) upd_same ((hB.same s1).out hp) (dps_same (wx_mono (same_new hp)) hvs)⟩⟩
theorem re_for (L : TRf P w K mg base C CB CW CS CN) (TB : LamX.TabB base mg c tw) (hmT : (tw, qRef) ∈ T') (hu : ∀ p ∈ T', p.1 = tw → p.2 = qRef) (hr : Room 12 (XRe P w K mg base f c A outer s H0 E).A) : ∃ t, PS (XRe P w K mg base f c A outer s H0 E) (oR 12) t ∧
    ∀ (D : Ends) (B : List Addr) (H : Hp) (p M NL r u : Addr) (xs : List V) (q0 : Pk) (qs : List Pk) (ds : List PyData) (cc : Nat) (o3 o6 o7 o8 o9 o10 : Option V), Rz G0 K T' B p M NL r u xs (q0 :: qs) ds ds cc H → ds.length < 40 → GL (q0 :: qs) → Nm4 (q0 :: qs) → (q0 :: qs).length ≤ 8 → q0.2.2.length ≤ 9 →
      (∀ H' o3', Rz G0 K T' B p M NL r u xs (q0 :: qs) (ds ++ (stL q0.1 (q0.2.2.length : Nat)).map stE) (ds ++ (stL q0.1 (q0.2.2.length : Nat)).map stE) cc H' → D.nx (sgR p M NL o3' (some (.ref r)) (some (.ref u)) o6 o7 o8 o9 o10) H') → t D (sgR p M NL o3 (some (.ref r)) (some (.ref u)) o6 o7 o8 o9 o10) H := by
  obtain ⟨t0, h0, r0⟩ := re12 (G0 := G0) (E := E) (A := A) (outer := outer) (s := s) (H0 := H0) (f := f) (c := c) L TB hmT hu hr
  obtain ⟨t1, h1, r1⟩ := re12b (K := K) (G0 := G0) (T' := T') (P := P) (w := w) (mg := mg) (base := base) (E := E) (A := A) (outer := outer) (s := s) (H0 := H0) (f := f) (c := c)
  refine ⟨_, (ps_for (passes_of rfl) rfl (pi_tup (pe_tup (pa_cons pe_non (pa_cons pe_int (pa_cons (pe_tup pa_nil) (pa_cons (pe_ix ix_list (pv 2) pe_int (fun _ _ => rfl)) (pa_cons (pe_tup (pa_cons (pe_ix ix_list (pv 2) pe_int (fun _ _ => rfl)) pa_nil)) (pa_cons (pe_tup (pa_cons pe_str (pa_cons pe_int pa_nil))) (pa_cons (pe_tup (pa_cons (pe_ix ix_list (pv 2) pe_int (fun _ _ => rfl)) (pa_cons (pe_un un_neg pe_int) pa_nil))) (pa_cons (pe_tup (pa_cons (pe_ix ix_list (pv 2) pe_int (fun _ _ => rfl)) (pa_cons pe_int pa_nil))) (pa_cons (pe_tup (pa_cons (pe_ix ix_list (pv 2) pe_int (fun _ _ => rfl)) (pa_cons pe_bl pa_nil))) (pa_cons (pe_lst (pa_cons pe_str (pa_cons pe_str pa_nil))) (pa_cons (pe_tup (pa_cons (pe_ix ix_list (pv 2) pe_int (fun _ _ => rfl)) (pa_cons pe_int (pa_cons pe_int pa_nil)))) (pa_cons (pe_tup (pa_cons (pe_ix ix_list (pv 2) pe_int (fun _ _ => rfl)) (pa_cons (pe_callB cr_lenV (by rfl) L.bi.len (by decide +kernel) (pa_cons (pe_ix ix_tup (pe_ix ix_list (pv 1) pe_int (fun _ _ => rfl)) pe_int (fun _ _ => rfl)) pa_nil)) pa_nil))) pa_nil)))))))))))))) (pg_name (i := 3) scRef.nd rfl (.inr rfl)) (pss_cons h0 (pss_one h1))), ?_⟩
  intro D B H p M NL r u xs q0 qs ds cc o3 o6 o7 o8 o9 o10 h ld gl n4 few l9 q
  have st : ∀ H H' : Hp, Same H H' → (Ry G0 T' B p M NL xs (q0 :: qs) cc H) → (Ry G0 T' B p M NL xs (q0 :: qs) cc H') := fun H H' e z => z.same e
  have mz : MkX K B (sgR p M NL o3 (some (.ref r)) (some (.ref u)) o6 o7 o8 o9 o10) (fun H => Ry G0 T' B p M NL xs (q0 :: qs) cc H) (tOp (rIxL K) (tVar 2) (tC (.int 0))) (.str q0.1) := fun H2 Q2 hF2 _ q2 => ⟨_, rfl, NL, _, _, _, rfl, rfl, SqL.of hF2.nms, at_of (i := 0) rfl, q2 H2 _ (Same.refl _) (.str _)⟩
  have ml : MkX K B (sgR p M NL o3 (some (.ref r)) (some (.ref u)) o6 o7 o8 o9 o10) (fun H => Ry G0 T' B p M NL xs (q0 :: qs) cc H) (tCB (rLenV K) (tCons (tOp (rIxT K) (tOp (rIxL K) (tVar 1) (tC (.int 0))) (tC (.int 2))) tNil)) (.int (q0.2.2.length : Nat)) := fun H2 Q2 hF2 _ q2 => by
    obtain ⟨y, hy, t, b, ws, rfl, ht, hb, hws⟩ := eachs_inv hF2.each (i := 0) rfl
    refine ⟨_, rfl, M, _, _, _, rfl, rfl, SqL.of hF2.lst, at_of hy, t, _, _, _, rfl, rfl, SqT.of ht, at_of (i := 2) rfl, b, ws, rfl, .inr (SqT.of hb), ?_⟩
    rw [hws.length]
    exact q2 H2 _ (Same.refl _) (.int _)
  have all := st_all st mz ml
  refine for_wr (B := B) (F := fun H => Ry G0 T' B p M NL xs (q0 :: qs) cc H) (ds := stL q0.1 (q0.2.2.length : Nat)) all h.ry h.ry.bin (by show 12 ≤ 1000; decide) fun H2 tp vs s2 g1 tpB hvs2 => ?_
  have lv : vs.length = 12 := dps_len2 hvs2
  have h2 := h.same s2
  have bad := stL_bad gl n4 l9
  refine for_it (walk_tup (xs := vs)) (fun i σ Hj => ∃ o3', σ = sgR p M NL o3' (some (.ref r)) (some (.ref u)) o6 o7 o8 o9 o10 ∧ Rz G0 K T' B p M NL r u xs (q0 :: qs) (ds ++ ((stL q0.1 (q0.2.2.length : Nat)).take i).map stE) (ds ++ ((stL q0.1 (q0.2.2.length : Nat)).take i).map stE) cc Hj ∧ KpX B H2 Hj)
    ⟨o3, rfl, by rw [List.take_zero, List.map_nil, List.append_nil]; exact h2, fun _ _ _ e _ => e⟩ (fun i σ Hj _ ⟨_, _, _, k⟩ => SqT.of (k _ _ tpB g1 (by intro x z; cases z))) ?_ ?_
  · rintro i y σ Hj Hj' hi ⟨o3', rfl, hj, kj⟩ ⟨rfl, hy⟩
    obtain ⟨sd, hsd, hdp⟩ := dps_get hvs2 hy
    have hdj := dp_ext (KpX.ext kj) hdp
    have bs := bad sd (List.mem_of_getElem? hsd)
    have li : (ds ++ ((stL q0.1 (q0.2.2.length : Nat)).take i).map stE).length < 60 := by
      rw [List.length_append, List.length_map, List.length_take]
      omega
    have ea : ds ++ ((stL q0.1 (q0.2.2.length : Nat)).take (i + 1)).map stE = (ds ++ ((stL q0.1 (q0.2.2.length : Nat)).take i).map stE) ++ [stE sd] := by
      rw [List.take_add_one, hsd, List.map_append, ← List.append_assoc]
      rfl
    refine r0 _ B Hj' p M NL r u xs (q0 :: qs) _ _ cc y sd _ _ _ _ _ hj li gl n4 few hdj bs fun H3 h3 k3 => ?_
    refine r1 _ B H3 p M NL r u xs (q0 :: qs) _ _ cc y sd _ _ _ _ _ _ h3 li (dp_ext (KpX.ext k3) hdj) fun H4 h4 k4 => ⟨_, rfl, ?_, (kj.trans k3).trans k4⟩
    rw [ea]
    exact h4
  · rintro σ Hj ⟨o3', rfl, hj, kj⟩
    have et : (stL q0.1 (q0.2.2.length : Nat)).take vs.length = stL q0.1 (q0.2.2.length : Nat) := by rw [lv]; rfl
    rw [et] at hj
    exact q Hj o3' hj
end
end DR

namespace DR
open PySem PySem.Spec PyProof.Rows L2
/-! ### _law_refused_right, whole -/
def dueL (k : Nat) (z : Str) (n : Int) : List PyData := [pcE k, pcE 0, wdE, wdE] ++ (stL z n).map stE
theorem due_plain (k : Nat) (z : Str) (n : Int) : (PyData.list (dueL k z n)).plain = true ∧ (PyData.list (dueL k z n)).depth ≤ 60 := by
  constructor
  · simp [dueL, pcE, wdE, stE, stL, PyData.plain, PyData.plainAll]
  · simp [dueL, pcE, wdE, stE, stL, PyData.depth, PyData.depthAll]
def spRef (K : PySem.W.Frag) (T' : List (Addr × Str)) : Sp := fun vs H Q _ => ∃ (p M NL : Addr) (v3 : V) (xs : List V) (q0 : Pk) (qs : List Pk) (c : Nat), vs = [.ref p, .ref M, .ref NL, v3] ∧ Pool H p c ∧ c < 80000 ∧ H M = some (.lst xs) ∧ PySem.W.EachIs (PieceG H) xs (q0 :: qs) ∧ H NL = some (.lst (((q0 :: qs).map (·.1)).map V.str)) ∧ M ≠ p ∧ NL ≠ p ∧ LamX.Tabs T' H ∧ GL (q0 :: qs) ∧ Nm4 (q0 :: qs) ∧ (q0 :: qs).length ≤ 8 ∧ q0.2.2.length ≤ 9 ∧
  ∀ H', LamX.ExtN (wx [p] H) H' → LamX.Tabs T' H' → Q (.bl true) H'
theorem tups_wx {H : Hp} {p : Addr} {c : Nat} (hP : Pool H p c) : TupS H (wx [p] H) := fun b xs e => by
  rw [wx_out]
  · exact e
  · intro z
    obtain ⟨_, _, _, e2, _⟩ := hP.ex
    rw [List.mem_singleton.mp z, e2] at e
    cases e
section
variable {P : Program} {w : World} {K : PySem.W.Frag} {mg : Str → Option Value} {base : Heap} {C CB CW CS CN f c tw : Addr} {G0 : Hp} {T' : List (Addr × Str)} {A : Around} {outer : List Env} {s : Shared} {H0 : Hp} {E : XK}
theorem re13 (hr : Room 12 (XRe P w K mg base f c A outer s H0 E).A) : ∃ t, PS (XRe P w K mg base f c A outer s H0 E) (oR 13) t ∧
    ∀ (H : Hp) (Q : VK) (N : L2.St → Hp → Prop) (B : List Addr) (p M NL r u : Addr) (xs : List V) (qs : List Pk) (ds : List PyData) (cc : Nat) (o3 o6 o7 o8 o9 o10 : Option V), Rz G0 K T' B p M NL r u xs qs ds ds cc H → (PyData.list ds).plain = true → (PyData.list ds).depth ≤ 60 → Q (.bl true) H → t { nx := N, rt := Q } (sgR p M NL o3 (some (.ref r)) (some (.ref u)) o6 o7 o8 o9 o10) H := by
  refine ⟨_, (ps_ret (pe_cmpR (op_eqP hr) (pv 4) (pv 5) (nomark _))), ?_⟩
  intro H Q N B p M NL r u xs qs ds cc o3 o6 o7 o8 o9 o10 h pl dp q
  obtain ⟨ys, h1, h2⟩ := h.fd.ex
  obtain ⟨zs, h3, h4⟩ := h.du.ex
  refine ⟨_, rfl, _, rfl, .list ds, .list ds, .lst (SqL.of h1) (dps_same wx_sub h2), .lst (SqL.of h3) (dps_same wx_sub h4), pl, pl, dp, ?_⟩
  rw [SeqAt.eqv_refl_plain _ pl]
  exact q
theorem ok_ref {fd : FuncData} (F : FunM K "_law_refused_right" "_law_refused_right" sRef c f fd) (L : TRf P w K mg base C CB CW CS CN) (TB : LamX.TabB base mg c tw) (hmT : (tw, qRef) ∈ T') (hu : ∀ p ∈ T', p.1 = tw → p.2 = qRef) : FnOk P w K mg base CX0 13 f fd ["pool", "pieces", "names", "start"] (spRef K T') := by
  refine F.okC scRef (fun vs H Q E h => ?_) (fun A outer s H vs Q E hr h => ?_)
  · obtain ⟨p, M, NL, v3, xs, q0, qs, c, rfl, _⟩ := h
    rfl
  · obtain ⟨p, M, NL, v3, xs, q0, qs, cc, rfl, hP, hc, hM, hxs, hN, Mp, Np, hT, gl, n4, few, l9, q⟩ := h
    obtain ⟨t0, h0, r0⟩ := re0 (K := K) (mg := mg) (base := base) (P := P) (w := w) (G0 := wx [p] H) (T' := T') (E := E) (A := A) (outer := outer) (s := s) (H0 := H) (f := f) (c := c) L hr
    obtain ⟨t1, h1, r1⟩ := re1 (K := K) (mg := mg) (base := base) (P := P) (w := w) (G0 := wx [p] H) (T' := T') (E := E) (A := A) (outer := outer) (s := s) (H0 := H) (f := f) (c := c) L hr
    obtain ⟨t2, h2, r2⟩ := re2 (K := K) (mg := mg) (base := base) (P := P) (w := w) (G0 := wx [p] H) (T' := T') (E := E) (A := A) (outer := outer) (s := s) (H0 := H) (f := f) (c := c) L hr
    obtain ⟨t3, h3, r3⟩ := re3 (K := K) (mg := mg) (base := base) (P := P) (w := w) (G0 := wx [p] H) (T' := T') (E := E) (A := A) (outer := outer) (s := s) (H0 := H) (f := f) (c := c) L TB hmT hu hr
    obtain ⟨t4, h4, r4⟩ := re4 (K := K) (mg := mg) (base := base) (P := P) (w := w) (G0 := wx [p] H) (T' := T') (E := E) (A := A) (outer := outer) (s := s) (H0 := H) (f := f) (c := c) 
    obtain ⟨t5, h5, r5⟩ := re5 (K := K) (mg := mg) (base := base) (P := P) (w := w) (G0 := wx [p] H) (T' := T') (E := E) (A := A) (outer := outer) (s := s) (H0 := H) (f := f) (c := c) L TB hmT hu hr
    obtain ⟨t6, h6, r6⟩ := re6 (K := K) (mg := mg) (base := base) (P := P) (w := w) (G0 := wx [p] H) (T' := T') (E := E) (A := A) (outer := outer) (s := s) (H0 := H) (f := f) (c := c) L hr
    obtain ⟨t7, h7, r7⟩ := re7 (K := K) (mg := mg) (base := base) (P := P) (w := w) (G0 := wx [p] H) (T' := T') (E := E) (A := A) (outer := outer) (s := s) (H0 := H) (f := f) (c := c) 
    obtain ⟨t8, h8, r8⟩ := re8 (K := K) (mg := mg) (base := base) (P := P) (w := w) (G0 := wx [p] H) (T' := T') (E := E) (A := A) (outer := outer) (s := s) (H0 := H) (f := f) (c := c) L TB hmT hu hr
    obtain ⟨t9, h9, r9⟩ := re9 (K := K) (mg := mg) (base := base) (P := P) (w := w) (G0 := wx [p] H) (T' := T') (E := E) (A := A) (outer := outer) (s := s) (H0 := H) (f := f) (c := c) 
    obtain ⟨t10, h10, r10⟩ := re10 (K := K) (mg := mg) (base := base) (P := P) (w := w) (G0 := wx [p] H) (T' := T') (E := E) (A := A) (outer := outer) (s := s) (H0 := H) (f := f) (c := c) L TB hmT hu hr
    obtain ⟨t11, h11, r11⟩ := re11 (K := K) (mg := mg) (base := base) (P := P) (w := w) (G0 := wx [p] H) (T' := T') (E := E) (A := A) (outer := outer) (s := s) (H0 := H) (f := f) (c := c) 
    obtain ⟨t12, h12, r12⟩ := re_for (K := K) (mg := mg) (base := base) (P := P) (w := w) (G0 := wx [p] H) (T' := T') (E := E) (A := A) (outer := outer) (s := s) (H0 := H) (f := f) (c := c) L TB hmT hu hr
    obtain ⟨t13, h13, r13⟩ := re13 (K := K) (mg := mg) (base := base) (P := P) (w := w) (G0 := wx [p] H) (T' := T') (E := E) (A := A) (outer := outer) (s := s) (H0 := H) (f := f) (c := c) hr
    refine ⟨_, pss_cons h0 (pss_cons h1 (pss_cons h2 (pss_cons h3 (pss_cons h4 (pss_cons h5 (pss_cons h6 (pss_cons h7 (pss_cons h8 (pss_cons h9 (pss_cons h10 (pss_cons h11 (pss_cons h12 (pss_one h13))))))))))))), ?_⟩
    have ry : Ry (wx [p] H) T' [p] p M NL xs (q0 :: qs) cc H := by
      refine ⟨hT, hP, List.mem_singleton.mpr rfl, fun b hb => ?_, LamX.ExtN.refl _, ?_, eachs_imp (fun _ _ => pieceG_s (tups_wx hP)) hxs, ?_⟩
      · obtain ⟨_, _, _, e2, _⟩ := hP.ex
        exact ⟨_, by rw [List.mem_singleton.mp hb]; exact e2⟩
      · rw [wx_out (fun z => Mp (List.mem_singleton.mp z))]
        exact hM
      · rw [wx_out (fun z => Np (List.mem_singleton.mp z))]
        exact hN
    refine r0 _ [p] H p M NL xs (q0 :: qs) cc _ _ _ _ _ _ _ _ ry (by omega) (by omega) fun Ha k ha hk => ?_
    refine r1 _ [p] Ha p M NL xs (q0 :: qs) (cc + 1) _ _ _ _ _ _ _ _ ha (by omega) fun Hb v d hb th hd => ?_
    have od : OddD k (q0 :: qs) d := noPcB_ok (odd1_ok d hd) _ _
    refine r2 _ [p] Hb p M NL xs (q0 :: qs) (cc + 1 + 1) k v d _ _ _ _ _ _ hb (by omega) th od hk (fun q hq => nm4_ok _ (n4.nm q hq)) fun Hc v2 d2 hc2 th2 od2 => ?_
    refine r3 _ [p] Hc p M NL xs (q0 :: qs) (cc + 1 + 1 + 1) k v2 d2 _ _ _ _ _ _ hc2 gl few th2 od2 hk fun Hd r hd2 rp Fd2 => ?_
    refine r4 _ [r, p] Hd p M NL r xs (q0 :: qs) (cc + 1 + 1 + 1) k _ _ _ _ _ _ _ hd2 Fd2 fun He u he up ur Fe Ue => ?_
    refine r5 _ [u, r, p] He p M NL r u xs (q0 :: qs) (cc + 1 + 1 + 1) _ _ _ _ _ _ _ _ he (by omega) (by simp) rp (by simp) up ur Fe Ue (by show 1 ≤ 90; decide) fun Hf hf Ff Uf => ?_
    have z6 : Rz (wx [p] H) K T' [u, r, p] p M NL r u xs (q0 :: qs) ([pcE k] ++ [pcE 0]) [pcE k] (cc + 1 + 1 + 1 + 1) Hf := ⟨hf, by simp, rp, by simp, up, ur, Ff, Uf, by show 2 ≤ 60; decide, by show 1 ≤ 60; decide⟩
    refine r6 _ _ Hf p M NL r u xs q0 qs _ _ _ _ _ _ _ _ _ _ _ z6 (by omega) (gl.each q0 (List.mem_cons_self ..)).nm fun Hg v6 d6 x6 z7 hv6 wd => ?_
    refine r7 _ _ Hg p M NL r u xs (q0 :: qs) _ _ _ v6 d6 _ _ _ _ _ _ _ z7 hv6 fun Hh v9 z8 hv6' hv9 => ?_
    refine r8 _ _ Hh p M NL r u xs (q0 :: qs) _ _ _ k v9 d6 x6 _ _ _ _ z8 (by show 2 < 60; decide) gl n4 few hk hv9 wd fun Hi z9 k9 => ?_
    refine r9 _ _ Hi p M NL r u xs (q0 :: qs) _ _ _ v6 v9 d6 _ _ _ _ _ _ z9 few (dp_ext (KpX.ext k9) hv6') (dp_ext (KpX.ext k9) hv9) fun Hj b8 zA hb8 => ?_
    refine r10 _ _ Hj p M NL r u b8 xs (q0 :: qs) _ _ _ d6 x6 _ _ _ _ _ zA (by show 3 < 60; decide) gl n4 few hb8 wd fun Hk zB => ?_
    refine r11 _ _ Hk p M NL r u xs (q0 :: qs) _ _ _ _ _ _ _ _ _ _ zB (by show 1 ≤ 50; decide) fun Hl u' zC => ?_
    refine r12 _ _ Hl p M NL r u' xs q0 qs [pcE k, pcE 0, wdE, wdE] _ _ _ _ _ _ _ zC (by show 4 < 40; decide) gl n4 few l9 fun Hm o3' zD => ?_
    obtain ⟨pl, dp⟩ := due_plain k q0.1 (q0.2.2.length : Nat)
    exact r13 Hm _ _ _ p M NL r u' xs (q0 :: qs) _ _ _ _ _ _ _ _ zD pl dp (q Hm (zD.ry.rx.kp.trans (.of wx_sub)) zD.ry.tabs)
end
end DR

namespace DR
open PySem PySem.Spec PyProof.Rows L2
/-! ### the law -/
abbrev sLaw : Stmt := topS 45
abbrev NLw : List Str := ["script", "turn", "pool", "names", "pieces", "start", "handed", "p", "kind", "words", "held", "image", "told", "others", "at", "other", "word"]
theorem scLaw : FnScope NLw ["script"] (defScope sLaw) := ⟨rfl, rfl, rfl, by decide +kernel, rfl, by decide +kernel, by decide +kernel⟩
abbrev lb (i : Nat) : Stmt := (defBody sLaw).getD i (.Pass ⟨0, 0, 0, 0⟩)
abbrev fb (i : Nat) : Stmt := (forB (lb 0)).getD i (.Pass ⟨0, 0, 0, 0⟩)
/-- what the law calls -/
structure TLw (P : Program) (w : World) (K : PySem.W.Frag) (mg : Str → Option Value) (base : Heap) (C CB CW CS fe : Addr) (T' : List (Addr × Str)) : Prop where
  bi : Bi mg
  repr : mg "repr" = none
  any : mg "any" = none
  cell : Has P w K mg base CX0 1 "_law_cell" ["script", "k"] (spCell K)
  pool : Has P w K mg base CX0 1 "_law_pool" ["cell"] spPool
  take : Has P w K mg base CX0 1 "_law_take" ["pool", "many"] spTake
  one : Has P w K mg base CX0 2 "_law_one" ["pool", "things"] (spOne K)
  mixed : Has P w K mg base CX0 2 "_law_mixed" ["pool", "things"] (spMixed K)
  pieces : Has P w K mg base CX0 5 "_law_pieces" ["pool", "names"] (spLPieces K)
  codes : Has P w K mg base CX0 1 "_law_codes" ["pieces"] (spCodes K)
  sloo : Has P w K mg base CX0 4 "_law_sum_loose" ["pool", "word"] (spSLoo K)
  loo : Has P w K mg base CX0 18 "_law_loose" ["pool", "thing"] (spLoo K 14)
  told : Has P w K mg base CX0 13 "_law_told_right" ["image", "pieces", "start"] (spTold K T' C)
  unl : Has P w K mg base CX0 13 "_law_unlike" ["pool", "pieces", "start"] (spUnl K C)
  ref : Has P w K mg base CX0 13 "_law_refused_right" ["pool", "pieces", "names", "start"] (spRef K T')
  mki : MkI P w K mg base C CB CW CS
  imc : ImC K C
  imq : ImQ K C fe
  eqf : ∃ fd, FnOk P w K mg base CX0 1 fe fd ["self", "other"] (spEqI K C) ∧ Binds K fd ["self", "other"] []
  ips : HasM P w K mg base CX0 1 C "pieces" ["self"] (spPieces K C)
abbrev XL (P : Program) (w : World) (K : PySem.W.Frag) (mg : Str → Option Value) (base : Heap) (f : Addr) (cdv : Value) (A : Around) (outer : List Env) (s : Shared) (H : Hp) (E : XK) : Cx := cxOf (L2.CX P w) P w K mg base NLw "law" (defScope sLaw) f cdv A outer s H E
abbrev sg (sc : Addr) (o1 o2 o3 o4 o5 o6 o7 o8 o9 o10 o11 o12 o13 : Option V) : L2.St := [some (.ref sc), o1, o2, o3, o4, o5, o6, o7, o8, o9, o10, o11, o12, o13, none, none, none]
theorem sqL_ext {K : PySem.W.Frag} {G G' : Hp} (e : LamX.ExtN G G') {a : Addr} {xs : List V} (h : SqL K G a xs) : SqL K G' a xs :=
  h.imp (fun h => h.imp (fun h => e _ _ h (by intro x z; cases z)) (fun ⟨o, h⟩ => ⟨o, e _ _ h (by intro x z; cases z)⟩)) id
/-- what stands at first -/
structure Rq (K : PySem.W.Frag) (T' : List (Addr × Str)) (sc : Addr) (ns : List Int) (p : Addr) (c : Nat) (H : Hp) : Prop where
  tabs : LamX.Tabs T' H
  pool : Pool H p c
  script : SqL K (wx [p] H) sc (ns.map V.int)
theorem Rq.dr {K : PySem.W.Frag} {T' : List (Addr × Str)} {sc : Addr} {ns : List Int} {p : Addr} {c c' : Nat} {H H' : Hp} (h : Rq K T' sc ns p c H) (d : Dr p H H') (hP : Pool H' p c') : Rq K T' sc ns p c' H' :=
  ⟨tabs_l h.tabs (extL_dr h.pool d), hP, sqL_ext (KpX.ext (.dr (List.mem_singleton.mpr rfl) d)) h.script⟩
theorem Rq.same {K : PySem.W.Frag} {T' : List (Addr × Str)} {sc : Addr} {ns : List Int} {p : Addr} {c : Nat} {H H' : Hp} (h : Rq K T' sc ns p c H) (e : Same H H') : Rq K T' sc ns p c H' := h.dr (fun b x _ y => e b x y) (pool_same e h.pool)
def unstr : V → Str
  | .str z => z
  | _ => ""
theorem strs_of {ys : List V} {l : List Str} (h : ys.Perm (l.map V.str)) : ∃ zs : List Str, zs.Perm l ∧ ys = zs.map V.str := by
  have e : (l.map V.str).map unstr = l := by
    rw [List.map_map]
    exact List.map_id l
  refine ⟨ys.map unstr, ?_, ?_⟩
  · have := h.map unstr
    rw [e] at this
    exact this
  · rw [List.map_map]
    refine (List.map_id ys).symm.trans (List.map_congr_left fun v hv => ?_)
    obtain ⟨z, _, rfl⟩ := List.mem_map.mp (h.subset hv)
    rfl
/-- names drawn -/
structure Nzs (zs : List Str) : Prop where
  nm : ∀ z ∈ zs, z ∈ nm4
  nod : zs.Nodup
  pos : 0 < zs.length
  few : zs.length ≤ 4
section
variable {P : Program} {w : World} {K : PySem.W.Frag} {mg : Str → Option Value} {base : Heap} {C CB CW CS fe f : Addr} {c : Value} {T' : List (Addr × Str)} {A : Around} {outer : List Env} {s : Shared} {H0 : Hp} {E : XK}
theorem s0 (L : TLw P w K mg base C CB CW CS fe T') (hr : Room 18 (XL P w K mg base f c A outer s H0 E).A) : ∃ t, PS (XL P w K mg base f c A outer s H0 E) (fb 0) t ∧ ∀ (D : Ends) (H : Hp) (sc : Addr) (ns : List Int) (j : Nat) (o2 o3 o4 o5 o6 o7 o8 o9 o10 o11 o12 o13 : Option V), SqL K H sc (ns.map V.int) → LamX.Tabs T' H →
      (∀ H' p, Rq K T' sc ns p 0 H' → D.nx (sg sc (some (.int (j : Int))) (some (.ref p)) o3 o4 o5 o6 o7 o8 o9 o10 o11 o12 o13) H') → t D (sg sc (some (.int (j : Int))) o2 o3 o4 o5 o6 o7 o8 o9 o10 o11 o12 o13) H := by
  refine ⟨_, ps_set (i := 2) scLaw.nd rfl (.inr rfl) (pe_callH L.pool (hr.mono (by decide)) (by rfl) pass0 (pa_cons (pe_op op_add (pe_callH L.cell (hr.mono (by decide)) (by rfl) pass0 (pa_cons (pv 0) (pa_cons (pv 1) pa_nil))) (pv 1)) pa_nil)), ?_⟩
  intro D H sc ns j o2 o3 o4 o5 o6 o7 o8 o9 o10 o11 o12 o13 h hT q
  refine ⟨_, rfl, _, rfl, sc, ns, j, rfl, h, fun n => ⟨_, rfl, n, _, rfl, rfl, _, rfl, fun p o hp pl => q _ p ⟨hT.ext (same_new hp), pl, ?_⟩⟩⟩
  refine sqL_same (fun b x e => ?_) h
  rw [wx_out (fun z => by rw [List.mem_singleton.mp z, hp] at e; cases e)]
  exact same_new hp _ _ e
theorem s1 (L : TLw P w K mg base C CB CW CS fe T') (hr : Room 18 (XL P w K mg base f c A outer s H0 E).A) : ∃ t, PS (XL P w K mg base f c A outer s H0 E) (fb 1) t ∧ ∀ (D : Ends) (H : Hp) (sc p : Addr) (ns : List Int) (o1 o3 o4 o5 o6 o7 o8 o9 o10 o11 o12 o13 : Option V), Rq K T' sc ns p 0 H →
      (∀ H' NL zs, Rq K T' sc ns p 5 H' → NL ≠ p → H' NL = some (.lst (zs.map V.str)) → Nzs zs → D.nx (sg sc o1 (some (.ref p)) (some (.ref NL)) o4 o5 o6 o7 o8 o9 o10 o11 o12 o13) H') → t D (sg sc o1 (some (.ref p)) o3 o4 o5 o6 o7 o8 o9 o10 o11 o12 o13) H := by
  refine ⟨_, (ps_set (i := 3) scLaw.nd rfl (.inl rfl) (pe_slice sl_list (pe_callH L.mixed (hr.mono (by decide)) (by rfl) pass0 (pa_cons (pv 2) (pa_cons (pe_lst (pa_cons pe_str (pa_cons pe_str (pa_cons pe_str (pa_cons pe_str pa_nil))))) pa_nil))) po_none (po_some (pe_op op_add pe_int (pe_callH L.take (hr.mono (by decide)) (by rfl) pass0 (pa_cons (pv 2) (pa_cons pe_int pa_nil))))))), ?_⟩
  intro D H sc p ns o1 o3 o4 o5 o6 o7 o8 o9 o10 o11 o12 o13 h q
  refine ⟨_, rfl, (by show 4 ≤ sizeLine; decide), fun a na => ?_⟩
  have k1 := same_new (o := .lst [V.str "b", V.str "a", V.str "main", V.str "abcdefgh"]) na
  have g1 : upd H a (.lst [V.str "b", V.str "a", V.str "main", V.str "abcdefgh"]) a = some (.lst [V.str "b", V.str "a", V.str "main", V.str "abcdefgh"]) := upd_same
  generalize upd H a (.lst [V.str "b", V.str "a", V.str "main", V.str "abcdefgh"]) = H1 at k1 g1 ⊢
  have h1 := h.same k1
  refine ⟨p, a, 0, _, rfl, h1.pool, (by show 0 + 4 < 100000; decide), .inl (SqL.of g1), (by show 4 ≤ 1000; decide), fun l ys H2 perm d2 P2 nl hl => ?_⟩
  have h2 := h1.dr d2 P2
  obtain ⟨zs, pz, rfl⟩ := strs_of (l := nm4) perm
  refine ⟨_, rfl, p, 4, 4, rfl, P2, by decide, by decide, by decide, fun r o r0 r4 P3 => ?_⟩
  obtain ⟨k, rfl⟩ := Int.eq_ofNat_of_zero_le r0
  have d3 : Dr p H2 (upd H2 p o) := fun b x hb e => by rw [upd_ne hb]; exact e
  have lp : l ≠ p := pool_ne h1.pool nl
  have hl3 := d3 _ _ lp hl
  have h3 := h2.dr d3 P3
  generalize upd H2 p o = H3 at d3 hl3 h3 ⊢
  have lz : zs.length = 4 := pz.length_eq
  refine ⟨_, _, rfl, rfl, _, rfl, l, _, rfl, SqL.of hl3, fun NL hN => ?_⟩
  have ei : (1 : Int) + ((k : Nat) : Int) = ((k + 1 : Nat) : Int) := by omega
  rw [ei, cut_to (by rw [List.length_map]; omega)]
  rw [← List.map_take]
  refine q _ NL (zs.take (k + 1)) (h3.same (same_new hN)) (pool_ne h3.pool hN) upd_same ⟨fun z hz => pz.subset (List.mem_of_mem_take hz), ?_, ?_, ?_⟩
  · exact (pz.nodup_iff.mpr (by decide +kernel)).sublist (List.take_sublist _ _)
  · rw [List.length_take]; omega
  · rw [List.length_take]; omega
theorem s2 (L : TLw P w K mg base C CB CW CS fe T') (hr : Room 18 (XL P w K mg base f c A outer s H0 E).A) : ∃ t, PS (XL P w K mg base f c A outer s H0 E) (fb 2) t ∧ ∀ (D : Ends) (H : Hp) (sc p NL : Addr) (ns : List Int) (zs : List Str) (o1 o4 o5 o6 o7 o8 o9 o10 o11 o12 o13 : Option V), Rq K T' sc ns p 5 H → NL ≠ p → H NL = some (.lst (zs.map V.str)) → Nzs zs →
      (∀ H' M xs qs c', Rq K T' sc ns p c' H' → SqL K (wx [M, p] H') sc (ns.map V.int) → c' ≤ 85 → M ≠ p → NL ≠ M → H' NL = some (.lst (zs.map V.str)) → H' M = some (.lst xs) → PySem.W.EachIs (PieceG H') xs qs → qs.map (·.1) = zs → (∀ q ∈ qs, OwnQ zs q) → D.nx (sg sc o1 (some (.ref p)) (some (.ref NL)) (some (.ref M)) o5 o6 o7 o8 o9 o10 o11 o12 o13) H') → t D (sg sc o1 (some (.ref p)) (some (.ref NL)) o4 o5 o6 o7 o8 o9 o10 o11 o12 o13) H := by
  refine ⟨_, ps_set (i := 4) scLaw.nd rfl (.inr rfl) (pe_callH L.pieces (hr.mono (by decide)) (by rfl) pass0 (pa_cons (pv 2) (pa_cons (pv 3) pa_nil))), ?_⟩
  intro D H sc p NL ns zs o1 o4 o5 o6 o7 o8 o9 o10 o11 o12 o13 h Np hN nz q
  have few := nz.few
  refine ⟨_, rfl, _, rfl, p, NL, 5, zs, rfl, h.pool, by decide, hN, Np, nz.pos, by omega, fun z hz => nm4_ok z (nz.nm z hz), fun M xs qs H' c' d P' hc nM hM hxs hmap own => ?_⟩
  exact q H' M xs qs c' (h.dr d P') (sqL_ext (KpX.more nM (.dr (List.mem_singleton.mpr rfl) d)) h.script) (by omega) (pool_ne h.pool nM) (ne_of_none hN nM) (d _ _ Np hN) hM hxs hmap own
end
end DR

namespace DR
open PySem PySem.Spec PyProof.Rows L2
theorem wx_tail {B : List Addr} {r : Addr} {H : Hp} : Same (wx (r :: B) H) (wx B H) := fun b x e => by
  by_cases h : b ∈ r :: B
  · rw [wx_in h] at e; cases e
  · rw [wx_out h] at e
    rw [wx_out fun z => h (List.mem_cons_of_mem _ z)]
    exact e
theorem Ry.drop {G0 : Hp} {T' : List (Addr × Str)} {B : List Addr} {r p M NL : Addr} {xs : List V} {qs : List Pk} {c : Nat} {H : Hp} (h : Ry G0 T' (r :: B) p M NL xs qs c H) (hp : p ∈ B) : Ry G0 T' B p M NL xs qs c H :=
  ⟨h.tabs, h.pool, hp, fun b hb => h.bl b (List.mem_cons_of_mem _ hb), h.rx.ext (.of wx_tail)⟩
theorem Ry.base {G0 : Hp} {T' : List (Addr × Str)} {B : List Addr} {p M NL : Addr} {xs : List V} {qs : List Pk} {c : Nat} {H : Hp} (h : Ry G0 T' B p M NL xs qs c H) : Ry (wx B H) T' B p M NL xs qs c H :=
  ⟨h.tabs, h.pool, h.pB, h.bl, LamX.ExtN.refl _, h.rx.lst, h.rx.each, h.rx.nms⟩
/-- what is known of the pieces -/
structure Gd (z : Str) (wl : List (Int × Mul)) (qs : List Pk) : Prop where
  gl : GL ((z, "code", wl ++ [(0, [])]) :: qs)
  n4 : Nm4 ((z, "code", wl ++ [(0, [])]) :: qs)
  sm : ∀ q ∈ ((z, "code", wl ++ [(0, [])]) :: qs : List Pk), QSm q
  few : qs.length ≤ 3
  l4 : ∀ q ∈ ((z, "code", wl ++ [(0, [])]) :: qs : List Pk), q.2.2.length ≤ 4
theorem own_sm {zs : List Str} (nz : Nzs zs) {w : Int × Mul} (h : OwnW zs w) : WSm w :=
  ⟨h.1, fun u hu => (let ⟨z, hz, e⟩ := h.2.1 u hu; ⟨z, nz.nm z hz, e⟩), h.2.2⟩
theorem own_qs {zs : List Str} (nz : Nzs zs) {q : Pk} (h : OwnQ zs q) : QSm q :=
  ⟨nz.nm _ h.1, by rcases h.2.1 with e | e <;> rw [e] <;> decide +kernel, Nat.le_trans h.2.2.1 (by decide), fun w hw => own_sm nz (h.2.2.2 w hw)⟩
theorem gd_of {z k : Str} {zs : List Str} {wl : List (Int × Mul)} {qs : List Pk} (nz : Nzs (z :: zs)) (hm : qs.map (·.1) = zs) (own : ∀ q ∈ ((z, k, wl) :: qs : List Pk), OwnQ (z :: zs) q) : Gd z wl qs := by
  have w0 : WSm (0, []) := ⟨wd_bare (by unfold Sz; decide), fun u hu => (by cases hu), fun q hq => (by cases hq)⟩
  have o0 := own _ (List.mem_cons_self ..)
  have l0 : wl.length ≤ 3 := o0.2.2.1
  have hd : QSm (z, "code", wl ++ [(0, [])]) := ⟨nz.nm z (List.mem_cons_self ..), by show ("code" : Str) ∈ kinds2; decide +kernel, by simp; omega, fun w hw => by
    rcases List.mem_append.mp hw with hw | hw
    · exact own_sm nz (o0.2.2.2 w hw)
    · rw [List.mem_singleton.mp hw]; exact w0⟩
  have sm : ∀ q ∈ ((z, "code", wl ++ [(0, [])]) :: qs : List Pk), QSm q := fun q hq => by
    rcases List.mem_cons.mp hq with rfl | hq
    · exact hd
    · exact own_qs nz (own q (List.mem_cons_of_mem _ hq))
  have en : ((z, "code", wl ++ [(0, [])]) :: qs : List Pk).map (·.1) = z :: zs := by rw [← hm]; rfl
  have lz : qs.length = zs.length := by rw [← hm, List.length_map]
  have fz : zs.length ≤ 3 := by have := nz.few; simpa using this
  refine ⟨⟨fun q hq => (sm q hq).ok, by rw [en]; exact nz.nod, by simp; omega, fun q hq w hw u hu => ?_⟩, ⟨fun q hq => (sm q hq).nm⟩, sm, by omega, fun q hq => ?_⟩
  · rw [en]
    rcases List.mem_cons.mp hq with rfl | hq
    · rcases List.mem_append.mp hw with hw | hw
      · exact (o0.2.2.2 w hw).2.1 u hu
      · rw [List.mem_singleton.mp hw] at hu; cases hu
    · exact ((own q (List.mem_cons_of_mem _ hq)).2.2.2 w hw).2.1 u hu
  · rcases List.mem_cons.mp hq with rfl | hq
    · simp; omega
    · exact Nat.le_trans (own q (List.mem_cons_of_mem _ hq)).2.2.1 (by decide)
theorem codes_few {n : Nat} : ∀ {qs : List Pk}, (∀ q ∈ qs, q.2.2.length ≤ 4) → qs.length ≤ n → (codesOf qs).length ≤ 4 * n
  | [], _, _ => Nat.zero_le _
  | q :: qs, h, l => by
    cases n with
    | zero => simp at l
    | succ n =>
      have h1 := codes_few (n := n) (qs := qs) (fun q hq => h q (List.mem_cons_of_mem _ hq)) (by simpa using l)
      have h2 := codesP_len q
      have h3 := h q (List.mem_cons_self ..)
      have : codesOf (q :: qs) = codesP q ++ codesOf qs := by simp [codesOf]
      rw [this, List.length_append]
      omega
theorem ix0 {v : V} {xs : List V} : ixN (v :: xs).length 0 = some 0 := by
  unfold ixN
  rw [if_pos (by decide), if_pos (by rw [List.length_cons]; omega)]
  rfl
section
variable {P : Program} {w : World} {K : PySem.W.Frag} {mg : Str → Option Value} {base : Heap} {C CB CW CS fe f : Addr} {c : Value} {T' : List (Addr × Str)} {A : Around} {outer : List Env} {s : Shared} {H0 : Hp} {E : XK}
theorem s3 (L : TLw P w K mg base C CB CW CS fe T') (hr : Room 18 (XL P w K mg base f c A outer s H0 E).A) : ∃ t, PS (XL P w K mg base f c A outer s H0 E) (fb 3) t ∧ ∀ (D : Ends) (H : Hp) (sc p NL M : Addr) (ns : List Int) (zs : List Str) (xs : List V) (qs : List Pk) (cc : Nat) (o1 o5 o6 o7 o8 o9 o10 o11 o12 o13 : Option V), Rq K T' sc ns p cc H → SqL K (wx [M, p] H) sc (ns.map V.int) → M ≠ p → NL ≠ p → NL ≠ M → H NL = some (.lst (zs.map V.str)) → H M = some (.lst xs) → PySem.W.EachIs (PieceG H) xs qs → qs.map (·.1) = zs → (∀ q ∈ qs, OwnQ zs q) → Nzs zs →
      (∀ H' xs' z wl qs', Ry (wx [p] H') T' [p] p M NL xs' ((z, "code", wl ++ [(0, [])]) :: qs') cc H' → SqL K (wx [p] H') sc (ns.map V.int) → Gd z wl qs' → D.nx (sg sc o1 (some (.ref p)) (some (.ref NL)) (some (.ref M)) o5 o6 o7 o8 o9 o10 o11 o12 o13) H') → t D (sg sc o1 (some (.ref p)) (some (.ref NL)) (some (.ref M)) o5 o6 o7 o8 o9 o10 o11 o12 o13) H := by
  refine ⟨_, (ps_asg (pe_tup (pa_cons (pe_ix ix_list (pv 3) pe_int (fun _ _ => rfl)) (pa_cons pe_str (pa_cons (pe_op op_catA (pe_ix ix_tup (pe_ix ix_list (pv 4) pe_int (fun _ _ => rfl)) pe_int (fun _ _ => rfl)) (pe_tup (pa_cons (pe_tup (pa_cons pe_int (pa_cons (pe_tup pa_nil) pa_nil))) pa_nil))) pa_nil)))) (pg_sub (pv 4) pe_int set_list)), ?_⟩
  intro D H sc p NL M ns zs xs qs cc o1 o5 o6 o7 o8 o9 o10 o11 o12 o13 h hs Mp Np NM hN hM hxs hmap own nz q
  cases hxs with
  | nil =>
    have : zs = [] := hmap.symm
    rw [this] at nz
    exact absurd nz.pos (by simp)
  | @cons v0 q0 xs qs hv hxs =>
    obtain ⟨z, k, wl⟩ := q0
    have ez : zs = z :: qs.map (·.1) := hmap.symm
    subst ez
    obtain ⟨t0, b, ws, rfl, ht0, hb, hws⟩ := hv
    have gd := gd_of (k := k) nz rfl own
    have lw : ws.length ≤ 4 := by
      have h1 := hws.length
      have h2 := (own (z, k, wl) (List.mem_cons_self ..)).2.2.1
      have h2 : wl.length ≤ 3 := h2
      have h1 : ws.length = wl.length := h1
      omega
    refine ⟨_, rfl, NL, _, _, _, rfl, rfl, SqL.of hN, at_of (i := 0) rfl, ?_⟩
    refine ⟨_, rfl, M, _, _, _, rfl, rfl, SqL.of hM, at_of (i := 0) rfl, t0, _, _, _, rfl, rfl, SqT.of ht0, at_of (i := 2) rfl, ?_⟩
    refine ⟨(by show 0 ≤ sizeLine; decide), fun e1 n1 => ⟨(by show 2 ≤ sizeLine; decide), fun e2 n2 => ⟨(by show 1 ≤ sizeLine; decide), fun e3 n3 => ?_⟩⟩⟩
    have k1 := same_new (o := .tup []) n1
    have g1 : upd H e1 (.tup []) e1 = some (.tup []) := upd_same
    generalize upd H e1 (.tup []) = H1 at k1 g1 n2 n3 ⊢
    have k2 := same_new (o := .tup [V.int 0, V.ref e1]) n2
    have g2 : upd H1 e2 (.tup [V.int 0, V.ref e1]) e2 = some (.tup [V.int 0, V.ref e1]) := upd_same
    generalize upd H1 e2 (.tup [V.int 0, V.ref e1]) = H2 at k2 g2 n3 ⊢
    have k3 := same_new (o := .tup [V.ref e2]) n3
    have g3 : upd H2 e3 (.tup [V.ref e2]) e3 = some (.tup [V.ref e2]) := upd_same
    generalize upd H2 e3 (.tup [V.ref e2]) = H3 at k3 g3 ⊢
    have S3 := k1.trans (k2.trans k3)
    refine catA_go (S3 _ _ hb) g3 (by simp) (by simp; omega) fun H4 b4 k4 g4 => ?_
    refine ⟨(by show 3 ≤ sizeLine; decide), fun t5 n5 => ?_⟩
    have k5 := same_new (o := .tup [V.str z, V.str "code", V.ref b4]) n5
    have g5 : upd H4 t5 (.tup [V.str z, V.str "code", V.ref b4]) t5 = some (.tup [V.str z, V.str "code", V.ref b4]) := upd_same
    generalize upd H4 t5 (.tup [V.str z, V.str "code", V.ref b4]) = H5 at k5 g5 ⊢
    have S5 := S3.trans (k4.trans k5)
    have hM5 := S5 _ _ hM
    refine ⟨_, rfl, M, _, 0, 0, rfl, rfl, hM5, ix0, ?_⟩
    have h5 := h.same S5
    have E6 : ExtL H5 (upd H5 M (.lst ((V.ref t0 :: xs).set 0 (V.ref t5)))) := ExtL.put hM5
    have P6 : Pool (upd H5 M (.lst ((V.ref t0 :: xs).set 0 (V.ref t5)))) p cc := pool_put h5.pool (fun z => Mp z.symm)
    have g6 : upd H5 M (.lst ((V.ref t0 :: xs).set 0 (V.ref t5))) M = some (.lst (V.ref t5 :: xs)) := upd_same
    have n6 : upd H5 M (.lst ((V.ref t0 :: xs).set 0 (V.ref t5))) NL = some (.lst ((z :: qs.map (·.1)).map V.str)) := by rw [upd_ne NM]; exact S5 _ _ hN
    have KX : KpX [M, p] H (upd H5 M (.lst ((V.ref t0 :: xs).set 0 (V.ref t5)))) := (KpX.of S5).trans (.put (List.mem_cons_self ..))
    generalize upd H5 M (.lst ((V.ref t0 :: xs).set 0 (V.ref t5))) = H6 at E6 P6 g6 n6 KX ⊢
    have T6 := E6.tup
    have s35 : Same H3 H5 := k4.trans k5
    have new : PieceG H6 (.ref t5) (z, "code", wl ++ [(0, [])]) := ⟨t5, b4, ws ++ [.ref e2], rfl, T6 _ _ g5, T6 _ _ (k5 _ _ g4), eachs_snoc (R := SumP _) ⟨e2, e1, [], rfl, T6 _ _ (s35 _ _ (k3 _ _ g2)), T6 _ _ (s35 _ _ (k3 _ _ (k2 _ _ g1))), .nil⟩ (eachs_imp (fun _ _ h => sumT_s T6 (sumT_s (TupS.of S5) h)) hws)⟩
    have each6 : PySem.W.EachIs (PieceG H6) (V.ref t5 :: xs) ((z, "code", wl ++ [(0, [])]) :: qs) := .cons new (eachs_imp (fun _ _ h => pieceG_s T6 (pieceG_s (TupS.of S5) h)) hxs)
    have out : ∀ {b : Addr}, b ≠ p → b ∉ [p] := fun h z => h (List.mem_singleton.mp z)
    refine q H6 (V.ref t5 :: xs) z wl qs ⟨tabs_l h5.tabs E6, P6, List.mem_singleton.mpr rfl, fun b hb => ?_, LamX.ExtN.refl _, by rw [wx_out (out Mp)]; exact g6, eachs_imp (fun _ _ => pieceG_s (tups_wx P6)) each6, by rw [wx_out (out Np)]; exact n6⟩ (sqL_same wx_tail (sqL_ext KX.ext hs)) gd
    rw [List.mem_singleton.mp hb]
    obtain ⟨_, _, _, e, _⟩ := P6.ex
    exact ⟨_, e⟩
theorem s4 (L : TLw P w K mg base C CB CW CS fe T') (hr : Room 18 (XL P w K mg base f c A outer s H0 E).A) : ∃ t, PS (XL P w K mg base f c A outer s H0 E) (fb 4) t ∧ ∀ (D : Ends) (H : Hp) (sc p NL M : Addr) (ns : List Int) (xs : List V) (z : Str) (wl : List (Int × Mul)) (qs : List Pk) (cc : Nat) (o1 o5 o6 o7 o8 o9 o10 o11 o12 o13 : Option V), Ry (wx [p] H) T' [p] p M NL xs ((z, "code", wl ++ [(0, [])]) :: qs) cc H → SqL K (wx [p] H) sc (ns.map V.int) → Gd z wl qs → cc ≤ 85 →
      (∀ H' s0 a0, Ry (wx [p] H') T' [p] p M NL xs ((z, "code", wl ++ [(0, [])]) :: qs) (cc + 1) H' → SqL K (wx [p] H') sc (ns.map V.int) → wx [p] H' s0 = some (.tup [.str a0.1, .int a0.2]) → a0 ∈ codesOf ((z, "code", wl ++ [(0, [])]) :: qs) → D.nx (sg sc o1 (some (.ref p)) (some (.ref NL)) (some (.ref M)) (some (.ref s0)) o6 o7 o8 o9 o10 o11 o12 o13) H') → t D (sg sc o1 (some (.ref p)) (some (.ref NL)) (some (.ref M)) o5 o6 o7 o8 o9 o10 o11 o12 o13) H := by
  refine ⟨_, (ps_set (i := 5) scLaw.nd rfl (.inr rfl) (pe_callH L.one (hr.mono (by decide)) (by rfl) pass0 (pa_cons (pv 2) (pa_cons (pe_callH L.codes (hr.mono (by decide)) (by rfl) pass0 (pa_cons (pv 4) pa_nil)) pa_nil)))), ?_⟩
  intro D H sc p NL M ns xs z wl qs cc o1 o5 o6 o7 o8 o9 o10 o11 o12 o13 h hs gd hc q
  have few := gd.few
  refine ⟨_, rfl, _, rfl, M, xs, _, rfl, h.lst, h.each, (by simp; omega), fun q hq => Nat.le_trans (gd.l4 q hq) (by decide), fun F ys H1 k1 nF hF hys => ?_⟩
  have h1 := h.same k1
  have ly := hys.length
  have pos : 0 < (codesOf ((z, "code", wl ++ [(0, [])]) :: qs)).length := by simp [codesOf, codesP]; omega
  have top : (codesOf ((z, "code", wl ++ [(0, [])]) :: qs)).length ≤ 1000 := by
    refine Nat.le_trans (codes_few (n := 4) (fun q hq => gd.l4 q hq) ?_) (by decide)
    simp; omega
  refine ⟨p, F, cc, ys, rfl, h1.pool, by omega, .inl (SqL.of hF), pool_ne h.pool nF, by omega, by omega, fun v o hv P2 => ?_⟩
  obtain ⟨a0, ha0, t, rfl, ht⟩ := each_at hys hv
  have d2 : Dr p H1 (upd H1 p o) := fun b x hb e => by rw [upd_ne hb]; exact e
  have h2 := h1.dr d2 P2
  have tp : t ≠ p := fun e => by
    obtain ⟨_, _, _, e2, _⟩ := h1.pool.ex
    rw [e, e2] at ht; cases ht
  refine q _ t a0 h2.base (sqL_ext h2.rx.kp hs) ?_ ha0
  rw [wx_out fun z => tp (List.mem_singleton.mp z)]
  exact d2 _ _ tp ht
end
end DR

namespace DR
open PySem PySem.Spec PyProof.Rows L2
theorem Ry.back {G0 G1 : Hp} {T' : List (Addr × Str)} {B : List Addr} {p M NL : Addr} {xs : List V} {qs : List Pk} {c : Nat} {H : Hp} (e : LamX.ExtN G0 G1) (h : Ry G1 T' B p M NL xs qs c H) : Ry G0 T' B p M NL xs qs c H :=
  ⟨h.tabs, h.pool, h.pB, h.bl, e.trans h.rx.kp, h.rx.lst, h.rx.each, h.rx.nms⟩
theorem gr_wx {B : List Addr} {H H' : Hp} {p : Addr} (hp : p ∈ B) (bin : BIn B H) (d : Dr p H H') : Same (gr (wx B H) H H') (wx B H') := fun b x e => by
  cases hb : H b with
  | none =>
    rw [gr_new hb] at e
    rw [wx_out (bin.out hb)]
    exact e
  | some o =>
    rw [gr_old hb] at e
    by_cases z : b ∈ B
    · rw [wx_in z] at e; cases e
    · rw [wx_out z] at e ⊢
      exact d b x (fun y => z (by rw [y]; exact hp)) e
theorem Fd.drop {K : PySem.W.Frag} {B : List Addr} {r b : Addr} {ds : List PyData} {H : Hp} (h : Fd K (b :: B) r ds H) : Fd K B r ds H := by
  obtain ⟨ys, h1, h2⟩ := h.ex
  exact ⟨ys, h1, dps_same wx_tail h2⟩
/-- pieces as they are handed in, under construction -/
structure Hg (qs : List Pk) (es : List PyData) : Prop where
  pc : PySem.W.EachIs PcD es qs
  nl : nl.nlAll es
  bulk : PyData.bulkAll es ≤ 2100 * es.length
  depth : PyData.depthAll es ≤ 12
theorem nls_snoc {d : PyData} : ∀ {a : List PyData}, nl.nlAll a → nl d → nl.nlAll (a ++ [d])
  | [], _, g => ⟨g, trivial⟩
  | _ :: _, h, g => ⟨h.1, nls_snoc h.2 g⟩
theorem bulk_one (d : PyData) : PyData.bulkAll [d] = d.bulk + 1 := by simp [PyData.bulkAll]
theorem depth_one (d : PyData) : PyData.depthAll [d] = d.depth := by simp [PyData.depthAll]
theorem Hg.snoc {qs : List Pk} {q : Pk} {es : List PyData} {d : PyData} (h : Hg qs es) (hp : PcD d q) (hn : DR.nl d) (hb : d.bulk ≤ 2090) (hd : d.depth ≤ 12) : Hg (qs ++ [q]) (es ++ [d]) := by
  refine ⟨eachs_snoc hp h.pc, nls_snoc h.nl hn, ?_, ?_⟩
  · have := h.bulk
    rw [bulk_app, bulk_one, List.length_append, List.length_singleton]
    omega
  · have := h.depth
    rw [depth_app, depth_one]
    omega
theorem Hg.sh {qs : List Pk} {es : List PyData} (h : Hg qs es) (few : es.length ≤ 8) : ShOk (.list es) := by
  have := h.bulk
  have := h.depth
  refine ⟨h.nl, ?_, ?_⟩
  · simp only [PyData.bulk]; omega
  · simp only [PyData.depth]; omega
theorem piece_lo {q : Pk} {es : List PyData} (sm : QSm q) (hw : PySem.W.EachIs WL es q.2.2) (hn : nl.nlAll es) (hb : PyData.bulkAll es ≤ 501 * es.length) (hd : PyData.depthAll es ≤ 8) (l4 : es.length ≤ 4) : PcD (.list [.str q.1, .str q.2.1, .list es]) q ∧ nl (.list [.str q.1, .str q.2.1, .list es]) ∧ (PyData.list [.str q.1, .str q.2.1, .list es]).bulk ≤ 2090 ∧ (PyData.list [.str q.1, .str q.2.1, .list es]).depth ≤ 12 := by
  have b1 := nm4_bulk _ sm.nm
  have b2 := kd_bulk _ sm.kd
  refine ⟨(show PSh _ q from ⟨_, es, rfl, rfl, hw⟩).pc sm.ok.nm sm.ok.kd sm.few, ⟨nm4_in _ sm.nm, kd_in _ sm.kd, hn, trivial⟩, ?_, ?_⟩
  · simp only [PyData.bulk, PyData.bulkAll] at b1 b2 ⊢
    omega
  · simp only [PyData.depth, PyData.depthAll]
    omega
section
variable {P : Program} {w : World} {K : PySem.W.Frag} {mg : Str → Option Value} {base : Heap} {C CB CW CS fe f : Addr} {c : Value} {T' : List (Addr × Str)} {A : Around} {outer : List Env} {s : Shared} {H0 : Hp} {E : XK}
theorem s5 : ∃ t, PS (XL P w K mg base f c A outer s H0 E) (fb 5) t ∧ ∀ (D : Ends) (G0 : Hp) (H : Hp) (sc p NL M s0 : Addr) (xs : List V) (qs : List Pk) (cc : Nat) (o1 o6 o7 o8 o9 o10 o11 o12 o13 : Option V), Ry G0 T' [p] p M NL xs qs cc H → (∀ b, H b = none → G0 b = none) →
      (∀ H' r, Ry G0 T' [r, p] p M NL xs qs cc H' → r ≠ p → G0 r = none → Fd K [r, p] r [] H' → D.nx (sg sc o1 (some (.ref p)) (some (.ref NL)) (some (.ref M)) (some (.ref s0)) (some (.ref r)) o7 o8 o9 o10 o11 o12 o13) H') → t D (sg sc o1 (some (.ref p)) (some (.ref NL)) (some (.ref M)) (some (.ref s0)) o6 o7 o8 o9 o10 o11 o12 o13) H := by
  refine ⟨_, (ps_set (i := 6) scLaw.nd rfl (.inl rfl) (pe_lst pa_nil)), ?_⟩
  intro D G0 H sc p NL M s0 xs qs cc o1 o6 o7 o8 o9 o10 o11 o12 o13 h dm q
  exact ⟨(by show 0 ≤ sizeLine; decide), fun r hr => q _ r (h.more hr) (pool_ne h.pool hr) (dm r hr) ⟨[], upd_same, .nil⟩⟩
theorem s6 (L : TLw P w K mg base C CB CW CS fe T') (hr : Room 18 (XL P w K mg base f c A outer s H0 E).A) : ∃ t, PS (XL P w K mg base f c A outer s H0 E) (fb 6) t ∧ ∀ (D : Ends) (G0 : Hp) (B : List Addr) (H : Hp) (sc p NL M s0 r : Addr) (xs : List V) (qs : List Pk) (cc : Nat) (o1 o7 o8 o9 o10 o11 o12 o13 : Option V), Ry G0 T' B p M NL xs qs cc H → r ∈ B → r ≠ p → Fd K B r [] H → (∀ q ∈ qs, QSm q) → (∀ q ∈ qs, q.2.2.length ≤ 4) → qs.length ≤ 4 → cc ≤ 1000 →
      (∀ H' es o7 o8 o9 c', Ry G0 T' B p M NL xs qs c' H' → c' ≤ cc + 112 → Fd K B r es H' → Hg qs es → D.nx (sg sc o1 (some (.ref p)) (some (.ref NL)) (some (.ref M)) (some (.ref s0)) (some (.ref r)) o7 o8 o9 o10 o11 o12 o13) H') → t D (sg sc o1 (some (.ref p)) (some (.ref NL)) (some (.ref M)) (some (.ref s0)) (some (.ref r)) o7 o8 o9 o10 o11 o12 o13) H := by
  refine ⟨_, (ps_for (passes_of rfl) rfl (pi_seqB (pv 4)) (pg_tup rfl (pgs_cons (pg_name (i := 7) scLaw.nd rfl (.inl rfl)) (pgs_cons (pg_name (i := 8) scLaw.nd rfl (.inl rfl)) (pgs_cons (pg_name (i := 9) scLaw.nd rfl (.inl rfl)) pgs_nil)))) (pss_one (ps_expr (pe_bm PySem.F.plainAttrs_list PySem.F.slot_list_append PySem.F.type_list_append mt_append (pv 6) (pa_cons (pe_lst (pa_cons (pv 7) (pa_cons (pv 8) (pa_cons (pe_lc (own := [("word", 16)]) (g := gName 16) (tt := tYes) (te := tCall (spSLoo K) [] E0 (tCons (tVar 2) (tCons (tVar 16) tNil))) rfl scLaw.nd (pi_seqB (pv 9)) (blkOk_by (N := NLw) (sc := defScope sLaw) (by decide +kernel)) (fun _ _ _ _ _ => pg_name (i := 16) scLaw.nd rfl (.inl rfl)) (fun _ _ _ _ _ => pts_nil) (fun _ _ _ _ _ => (pe_callH L.sloo (hr.mono (by decide)) (by rfl) pass0 (pa_cons (pv 2) (pa_cons (pv 16) pa_nil))))) pa_nil)))) pa_nil))))), ?_⟩
  intro D G0 B H sc p NL M s0 r xs qs cc o1 o7 o8 o9 o10 o11 o12 o13 h rB rp hF sm l4 few hc q
  have lx : xs.length = qs.length := h.each.length
  refine ⟨_, rfl, M, xs, true, rfl, SqL.of h.lst, fun J Gd W hG => ?_⟩
  refine for_it W (fun i σ H' => ∃ (o7 o8 o9 : Option V) (es : List PyData) (cj : Nat), σ = sg sc o1 (some (.ref p)) (some (.ref NL)) (some (.ref M)) (some (.ref s0)) (some (.ref r)) o7 o8 o9 o10 o11 o12 o13 ∧ Ry G0 T' B p M NL xs qs cj H' ∧ cj ≤ cc + 28 * i ∧ Fd K B r es H' ∧ es.length = i ∧ Hg (qs.take i) es)
    ⟨o7, o8, o9, [], cc, rfl, h, Nat.le_refl _, hF, rfl, ⟨.nil, trivial, by simp [PyData.bulkAll], by simp [PyData.depthAll]⟩⟩ (fun i σ H' _ ⟨_, _, _, _, _, _, h', _⟩ => hG H' (SqL.of h'.lst)) ?_ ?_
  · rintro i y σ H1' H1 hi ⟨o7, o8, o9, es, cj, rfl, h1, hcj, F1, le, hg⟩ ⟨rfl, hy⟩
    obtain ⟨pk, hpk, hp⟩ := eachs_get h1.rx.each hy
    have qm := List.mem_of_getElem? hpk
    obtain ⟨t, b, ws, rfl, ht, hb, hws⟩ := hp
    have lw : ws.length = pk.2.2.length := hws.length
    have lw4 := l4 pk qm
    refine ⟨t, _, rfl, SqT.of (wx_sub _ _ ht), rfl, _, _, rfl, _, _, rfl, _, _, rfl, rfl, ?_⟩
    obtain ⟨ys1, hr1, _⟩ := id F1.ex
    refine ⟨_, rfl, .inl ⟨rfl, _, SqL.of hr1⟩, _, rfl, _, rfl, _, rfl, b, ws, false, rfl, SqT.of (wx_sub _ _ hb), fun J2 Gd2 W2 hG2 => fun F hFn => ?_⟩
    have FB := h1.bin.out hFn
    have Fp : F ≠ p := pool_ne h1.pool hFn
    have rF : r ≠ F := ne_of_none hr1 hFn
    refine lc_it W2 (fun j Hj => ∃ (ds : List PyData) (c2 : Nat), Ry (wx B H1) T' (F :: B) p M NL xs qs c2 Hj ∧ c2 ≤ cj + 7 * j ∧ Fd K (F :: B) r es Hj ∧ Fd K (F :: B) F ds Hj ∧ ds.length = j ∧ PySem.W.EachIs WL ds (pk.2.2.take j) ∧ nl.nlAll ds ∧ PyData.bulkAll ds ≤ 501 * j ∧ PyData.depthAll ds ≤ 8)
      ⟨[], cj, h1.base.more hFn, Nat.le_refl _, F1.more hFn, ⟨[], upd_same, .nil⟩, rfl, .nil, trivial, by simp [PyData.bulkAll], by simp [PyData.depthAll]⟩ (fun j Hj _ ⟨_, _, h', _⟩ => hG2 Hj (SqT.of (wx_sub _ _ (h'.rx.kp _ _ hb (by intro x z; cases z))))) ?_ ?_
    · rintro j u Hj Hj' hj ⟨ds, c2, h2, hc2, F2, G2, ld, hwl, hnl, hbk, hdp⟩ ⟨rfl, hu⟩
      obtain ⟨wd, hwd, hsum⟩ := eachs_get hws hu
      have wm := (sm pk qm).wd wd (List.mem_of_getElem? hwd)
      refine ⟨rfl, yes_go ⟨_, rfl, _, rfl, p, u, c2, wx (F :: B) Hj', wd, rfl, h2.pool, by omega, wx_sub, wx_in h2.pB, sumT_s (ext_tup h2.rx.kp) hsum, wm, fun v' d' H6 c6 dr P6 hc6 hv' hwl' hnl' hb' hd' => ?_⟩⟩
      have h6 := h2.dr dr P6
      obtain ⟨acc, hF6, hall6⟩ := id (G2.dr Fp h2.pB dr).ex
      have la := dps_len2 hall6
      have FinB : F ∈ F :: B := List.mem_cons_self ..
      refine ⟨acc, hF6, small1000 (by omega), ds ++ [d'], c6, h6.put FinB Fp hF6, by omega, (F2.dr rp h2.pB dr).put FinB rF, Fd.app FinB hF6 hall6 (dp_same (gr_wx h2.pB h2.bin dr) hv'), by simp [ld], ?_, nls_snoc hnl hnl', ?_, ?_⟩
      · rw [List.take_add_one, hwd]
        exact eachs_snoc hwl' hwl
      · rw [bulk_app, bulk_one]; omega
      · rw [depth_app, depth_one]; omega
    · rintro Hj ⟨ds, c2, h2, hc2, F2, G2, ld, hwl, hnl, hbk, hdp⟩
      rw [lw, List.take_length] at hwl
      obtain ⟨acc, hFj, hall⟩ := id G2.ex
      have h3 := (h2.drop h1.pB).back h1.rx.kp
      have F3 := F2.drop
      refine ⟨(by show 3 ≤ sizeLine; decide), fun a na => ?_⟩
      have ka := same_new (o := .lst [V.str pk.1, V.str pk.2.1, V.ref F]) na
      have h4 := h3.same ka
      have F4 := F3.same ka
      have aB := h3.bin.out na
      obtain ⟨p1, p2, p3, p4⟩ := piece_lo (sm pk qm) hwl hnl (by omega) hdp (by omega)
      have dF : Dp K (wx B (upd Hj a (.lst [V.str pk.1, V.str pk.2.1, V.ref F]))) (.ref F) (.list ds) := dp_same (wx_mono ka) (.lst (SqL.of (by rw [wx_out FB]; exact hFj)) (dps_same wx_tail hall))
      refine app_go h4 rB rp F4 (by omega) (d := .list [.str pk.1, .str pk.2.1, .list ds]) (.lst (SqL.of (by rw [wx_out aB]; exact upd_same)) (.cons (.str _) (.cons (.str _) (.cons dF .nil)))) fun ys hy5 h5 F5 => ?_
      refine ⟨_, _, _, es ++ [_], c2, rfl, h5, by omega, F5, by simp [le], ?_⟩
      rw [List.take_add_one, hpk]
      exact hg.snoc p1 p2 p3 p4
  · rintro σ H1 ⟨o7, o8, o9, es, cj, rfl, h1, hcj, F1, le, hg⟩
    rw [lx, List.take_length] at hg
    exact q H1 es o7 o8 o9 cj h1 (by omega) F1 hg
end
end DR

namespace DR
open PySem PySem.Spec PyProof.Rows L2
/-! ### no tables: so that all stays -/
def nt (G : Hp) : Hp := fun b => match G b with
  | some (.tbl _) => none
  | o => o
theorem nt_has {G : Hp} {b : Addr} {o : HO} (h : G b = some o) (n : ∀ ps, o ≠ .tbl ps) : nt G b = some o := by
  unfold nt
  rw [h]
  cases o <;> first | rfl | exact absurd rfl (n _)
theorem nt_in {G : Hp} {b : Addr} {o : HO} (h : nt G b = some o) : G b = some o ∧ ∀ ps, o ≠ .tbl ps := by
  unfold nt at h
  cases e : G b with
  | none => rw [e] at h; cases h
  | some x =>
    rw [e] at h
    cases x <;> first | (cases h; done) | (obtain rfl := Option.some.inj h; exact ⟨rfl, by intro ps z; cases z⟩)
def NoT (G : Hp) : Prop := ∀ b ps, G b ≠ some (.tbl ps)
theorem nt_no {G : Hp} : NoT (nt G) := fun b ps e => (nt_in e).2 ps rfl
theorem nt_ext {G : Hp} : LamX.ExtN G (nt G) := fun b o e n => nt_has e n
theorem nt_sub {G : Hp} : Same (nt G) G := fun b o e => (nt_in e).1
theorem NoT.same {G H : Hp} (h : NoT G) (e : LamX.ExtN G H) : Same G H := fun b o z => e b o z fun ps y => h b ps (by rw [z, y])
theorem Ry.nt {G0 : Hp} {T' : List (Addr × Str)} {B : List Addr} {p M NL : Addr} {xs : List V} {qs : List Pk} {c : Nat} {H : Hp} (h : Ry G0 T' B p M NL xs qs c H) : Ry (DR.nt (wx B H)) T' B p M NL xs qs c H :=
  ⟨h.tabs, h.pool, h.pB, h.bl, .of nt_sub, h.rx.lst, h.rx.each, h.rx.nms⟩
/-- what stands from here on -/
structure Bf (K : PySem.W.Frag) (sc : Addr) (ns : List Int) (M NL s0 : Addr) (xs : List V) (qs : List Pk) (a0 : Str × Int) (G : Hp) : Prop where
  no : NoT G
  script : SqL K G sc (ns.map V.int)
  lst : G M = some (.lst xs)
  each : PySem.W.EachIs (PieceG G) xs qs
  nms : G NL = some (.lst ((qs.map (·.1)).map V.str))
  st : G s0 = some (.tup [.str a0.1, .int a0.2])
theorem Bf.of {K : PySem.W.Frag} {T' : List (Addr × Str)} {sc p M NL s0 : Addr} {ns : List Int} {xs : List V} {qs : List Pk} {c : Nat} {a0 : Str × Int} {G0 H : Hp} (h : Ry G0 T' [p] p M NL xs qs c H) (hs : SqL K (wx [p] H) sc (ns.map V.int)) (st : wx [p] H s0 = some (.tup [.str a0.1, .int a0.2])) : Bf K sc ns M NL s0 xs qs a0 (nt (wx [p] H)) :=
  ⟨nt_no, sqL_ext nt_ext hs, nt_ext _ _ h.rx.lst (by intro x z; cases z), eachs_imp (fun _ _ => pieceG_s (ext_tup nt_ext)) h.rx.each, nt_ext _ _ h.rx.nms (by intro x z; cases z), nt_ext _ _ st (by intro x z; cases z)⟩
theorem Bf.kp {K : PySem.W.Frag} {T' : List (Addr × Str)} {sc p M NL s0 : Addr} {ns : List Int} {xs : List V} {qs : List Pk} {c : Nat} {a0 : Str × Int} {G0 H : Hp} {B : List Addr} (b : Bf K sc ns M NL s0 xs qs a0 G0) (h : Ry G0 T' B p M NL xs qs c H) : Same G0 (wx B H) := b.no.same h.rx.kp
theorem Bf.dm {K : PySem.W.Frag} {T' : List (Addr × Str)} {sc p M NL s0 : Addr} {ns : List Int} {xs : List V} {qs : List Pk} {c : Nat} {a0 : Str × Int} {G0 H : Hp} {B : List Addr} (b : Bf K sc ns M NL s0 xs qs a0 G0) (h : Ry G0 T' B p M NL xs qs c H) {x : Addr} (e : H x = none) : G0 x = none := by
  cases z : G0 x with
  | none => rfl
  | some o => rw [wx_sub _ _ (b.kp h _ _ z)] at e; cases e
/-- one list more is left out -/
theorem Bf.add {K : PySem.W.Frag} {T' : List (Addr × Str)} {sc p M NL s0 r : Addr} {ns : List Int} {xs ys : List V} {qs : List Pk} {c : Nat} {a0 : Str × Int} {G0 H : Hp} {B : List Addr} (b : Bf K sc ns M NL s0 xs qs a0 G0) (h : Ry G0 T' B p M NL xs qs c H) (hr : H r = some (.lst ys)) (gr : G0 r = none) : Ry G0 T' (r :: B) p M NL xs qs c H := by
  have s : Same G0 (wx (r :: B) H) := fun x o e => by
    have e2 := b.kp h _ _ e
    have : x ∉ r :: B := fun z => by
      rcases List.mem_cons.mp z with z | z
      · rw [z, gr] at e; cases e
      · rw [wx_in z] at e2; cases e2
    rw [wx_out this]
    exact wx_sub _ _ e2
  exact ⟨h.tabs, h.pool, List.mem_cons_of_mem _ h.pB, fun x hx => by
    rcases List.mem_cons.mp hx with z | z
    · rw [z]; exact ⟨_, hr⟩
    · exact h.bl x z, .of s, s _ _ b.lst, eachs_imp (fun _ _ => pieceG_s (TupS.of s)) b.each, s _ _ b.nms⟩
/-- what is handed in -/
structure Hd (K : PySem.W.Frag) (G0 : Hp) (p h : Addr) (d : PyData) (qs : List Pk) (H : Hp) : Prop where
  dp : Dp K (wx [p] H) (.ref h) d
  hd : HdOk d qs
  sh : ShOk d
  hp : h ≠ p
  gn : (∃ ys, d = .list ys) → G0 h = none ∧ ∃ ys, H h = some (.lst ys)
theorem Hd.ext {K : PySem.W.Frag} {G0 : Hp} {p h : Addr} {d : PyData} {qs : List Pk} {H H' : Hp} (x : Hd K G0 p h d qs H) (e : LamX.ExtN H H') : Hd K G0 p h d qs H' := ⟨dp_ext (KpX.ext (.ofN e)) x.dp, x.hd, x.sh, x.hp, fun z => (let ⟨a, ys, b⟩ := x.gn z; ⟨a, ys, e _ _ b (by intro x z; cases z)⟩)⟩
theorem Hd.dr {K : PySem.W.Frag} {G0 : Hp} {p h : Addr} {d : PyData} {qs : List Pk} {H H' : Hp} (x : Hd K G0 p h d qs H) (e : Dr p H H') : Hd K G0 p h d qs H' := ⟨dp_ext (KpX.ext (.dr (List.mem_singleton.mpr rfl) e)) x.dp, x.hd, x.sh, x.hp, fun z => (let ⟨a, ys, b⟩ := x.gn z; ⟨a, ys, e _ _ x.hp b⟩)⟩
section
variable {P : Program} {w : World} {K : PySem.W.Frag} {mg : Str → Option Value} {base : Heap} {C CB CW CS fe f : Addr} {c : Value} {T' : List (Addr × Str)} {A : Around} {outer : List Env} {s : Shared} {H0 : Hp} {E : XK}
theorem s7 (L : TLw P w K mg base C CB CW CS fe T') (hr : Room 18 (XL P w K mg base f c A outer s H0 E).A) : ∃ t, PS (XL P w K mg base f c A outer s H0 E) (fb 7) t ∧ ∀ (D : Ends) (G0 : Hp) (H : Hp) (sc p NL M s0 r : Addr) (ns : List Int) (a0 : Str × Int) (xs : List V) (qs : List Pk) (es : List PyData) (cc : Nat) (o1 o7 o8 o9 o10 o11 o12 o13 : Option V), Ry G0 T' [r, p] p M NL xs qs cc H → Bf K sc ns M NL s0 xs qs a0 G0 → r ≠ p → G0 r = none → Fd K [r, p] r es H → Hg qs es → GL qs → (∀ q ∈ qs, QSm q) → (∀ q ∈ qs, q.2.2.length ≤ 4) → qs.length ≤ 4 → cc ≤ 1000 →
      (∀ H' h d c', Ry G0 T' [p] p M NL xs qs c' H' → c' ≤ cc + 3000 → Hd K G0 p h d qs H' → D.nx (sg sc o1 (some (.ref p)) (some (.ref NL)) (some (.ref M)) (some (.ref s0)) (some (.ref h)) o7 o8 o9 o10 o11 o12 o13) H') → t D (sg sc o1 (some (.ref p)) (some (.ref NL)) (some (.ref M)) (some (.ref s0)) (some (.ref r)) o7 o8 o9 o10 o11 o12 o13) H := by
  refine ⟨_, (ps_set (i := 6) scLaw.nd rfl (.inl rfl) (pe_callH L.one (hr.mono (by decide)) (by rfl) pass0 (pa_cons (pv 2) (pa_cons (pe_lst (pa_cons (pv 6) (pa_cons (pe_callH L.loo (hr.mono (by decide)) (by rfl) pass0 (pa_cons (pv 2) (pa_cons (pv 4) pa_nil))) pa_nil))) pa_nil)))), ?_⟩
  intro D G0 H sc p NL M s0 r ns a0 xs qs es cc o1 o7 o8 o9 o10 o11 o12 o13 h bf rp gr0 hF hg gl sm l4 few hc q
  have hP := h.drop (List.mem_singleton.mpr rfl)
  have le : es.length = qs.length := hg.pc.length
  obtain ⟨pp, pd⟩ := pk_plain (qs := qs) gl.nmq
  have pl : (PyData.list (qs.map pkD)).plain = true := by simpa [PyData.plain] using pp
  obtain ⟨c1, c2⟩ := cost_list (qs := qs) (fun q hq => (sm q hq).ok) (by omega)
  refine ⟨_, rfl, _, rfl, _, rfl, _, rfl, p, .ref M, cc, wx [p] H, .list (qs.map pkD), rfl, h.pool, by omega, wx_sub, wx_in (List.mem_singleton.mpr rfl), .lst (SqL.of hP.rx.lst) (pieces_dp hP.rx.each), pl, c2, (by simp only [PyData.depth]; omega), by decide, fun v' d' H1 cc1 dr P1 hc1 hv' hlo hnew => ?_⟩
  have h1 := h.dr dr P1
  have hP1 := hP.dr dr P1
  have F1 := hF.dr rp h.pB dr
  have v1 : Dp K (wx [p] H1) v' d' := dp_same (gr_wx (List.mem_singleton.mpr rfl) hP.bin dr) hv'
  refine ⟨(by show 2 ≤ sizeLine; decide), fun l nl => ?_⟩
  have k2 := same_new (o := .lst [V.ref r, v']) nl
  have g2 : upd H1 l (.lst [V.ref r, v']) l = some (.lst [V.ref r, v']) := upd_same
  have lp : l ≠ p := pool_ne P1 nl
  generalize upd H1 l (.lst [V.ref r, v']) = H2 at k2 g2 ⊢
  have h2 := h1.same k2
  refine ⟨p, l, cc1, _, rfl, h2.pool, by omega, .inl (SqL.of g2), lp, (by show 0 < 2; decide), (by show 2 < 1000000; decide), fun v o hv P3 => ?_⟩
  have d3 : Dr p H2 (upd H2 p o) := fun b x hb e => by rw [upd_ne hb]; exact e
  have h3 := (hP1.same k2).dr d3 P3
  have F3 := (F1.same k2).dr rp h.pB d3
  have d3 := d3
  have v3 : Dp K (wx [p] (upd H2 p o)) v' d' := dp_ext (KpX.ext (.dr (List.mem_singleton.mpr rfl) d3)) (dp_same (wx_mono k2) v1)
  generalize upd H2 p o = H3 at h3 F3 v3 d3 ⊢
  rcases List.mem_cons.mp hv with rfl | hv
  · obtain ⟨ys, hy, hall⟩ := F3.ex
    refine q H3 r (.list es) _ h3 (by omega) ⟨.lst (SqL.of (by rw [wx_out fun z => rp (List.mem_singleton.mp z)]; exact hy)) (dps_same wx_tail hall), ⟨⟨es, rfl, hg.pc⟩, by omega, fun q hq => Nat.le_trans (l4 q hq) (by decide), gl.nod⟩, hg.sh (by omega), rp, fun _ => ⟨gr0, _, hy⟩⟩
  · obtain rfl := List.mem_singleton.mp hv
    obtain ⟨ds, ei, hds⟩ := lo_pieces (fun q hq => (sm q hq).ok) hlo
    obtain ⟨a, ys, rfl, hsq, _⟩ := th_items (.dat v3) ei
    have ap : a ≠ p := pool_ne h.pool (hnew a _ rfl rfl).1
    refine q H3 a d' _ h3 (by omega) ⟨v3, ⟨⟨ds, ei, hds⟩, by omega, fun q hq => Nat.le_trans (l4 q hq) (by decide), gl.nod⟩, (list_sh sm (by omega)).lo hlo, ap, fun z => ⟨bf.dm h (hnew a _ rfl rfl).1, ?_⟩⟩
    obtain ⟨zs, hz⟩ := (hnew a _ rfl rfl).2 z
    exact ⟨zs, d3 _ _ ap (k2 _ _ hz)⟩
theorem s8 (L : TLw P w K mg base C CB CW CS fe T') (hr : Room 18 (XL P w K mg base f c A outer s H0 E).A) (hg : (XL P w K mg base f c A outer s H0 E).A.guards = some []) : ∃ t, PS (XL P w K mg base f c A outer s H0 E) (fb 8) t ∧ ∀ (D : Ends) (G0 : Hp) (H : Hp) (sc p NL M s0 h : Addr) (qs : List Pk) (d : PyData) (o1 o7 o8 o9 o10 o11 o12 o13 : Option V), Hd K G0 p h d qs H →
      D.nx (sg sc o1 (some (.ref p)) (some (.ref NL)) (some (.ref M)) (some (.ref s0)) (some (.ref h)) o7 o8 o9 (some (.str d.shown)) o11 o12 o13) H → t D (sg sc o1 (some (.ref p)) (some (.ref NL)) (some (.ref M)) (some (.ref s0)) (some (.ref h)) o7 o8 o9 o10 o11 o12 o13) H := by
  have hu := hr.un
  refine ⟨_, (ps_set (i := 10) scLaw.nd rfl (.inl rfl) (pe_callB (GA.call_repr_dat hg (by omega)) (by rfl) L.repr (by decide +kernel) (pa_cons (pv 6) pa_nil))), ?_⟩
  intro D G0 H sc p NL M s0 h qs d o1 o7 o8 o9 o10 o11 o12 o13 x q
  obtain ⟨a, b, e, _⟩ := nl_show d x.sh.nl
  exact ⟨_, rfl, h, d, rfl, dp_same wx_sub x.dp, a, e, Nat.le_trans x.sh.depth (by decide), x.sh.len, q⟩
end
end DR

namespace DR
open PySem PySem.Spec PyProof.Rows L2
theorem wx_l {B : List Addr} {H : Hp} (h : ∀ b ∈ B, ∃ ys, H b = some (.lst ys)) : ExtL H (wx B H) := fun b o e n => by
  rw [wx_out fun z => ?_]
  · exact e
  · obtain ⟨ys, y⟩ := h b z
    rw [y] at e
    exact n ys (Option.some.inj e).symm
theorem kit_list1 {K : PySem.W.Frag} (d : PyData) : PySem.W.kitOne K (.type (tyN d)) (.type "list") = some (tyN d == "list") := kit_ty (kb_list _ (tyN_mem d))
theorem Bf.ft {K : PySem.W.Frag} {T' : List (Addr × Str)} {C x sc p M NL s0 : Addr} {ns : List Int} {xs : List V} {qs : List Pk} {c : Nat} {a0 : Str × Int} {G0 H : Hp} {B : List Addr} (b : Bf K sc ns M NL s0 xs qs a0 G0) (h : Ry G0 T' B p M NL xs qs c H) (hi : ImgG (wx B H) C x qs a0) : Ft K T' C x M s0 xs qs a0 H :=
  ⟨h.tabs, imgG_s wx_sub hi, h.lst, h.each, wx_sub _ _ (b.kp h _ _ b.st)⟩
section
variable {P : Program} {w : World} {K : PySem.W.Frag} {mg : Str → Option Value} {base : Heap} {C CB CW CS fe f : Addr} {c : Value} {T' : List (Addr × Str)} {A : Around} {outer : List Env} {s : Shared} {H0 : Hp} {E : XK}
theorem s9 (L : TLw P w K mg base C CB CW CS fe T') (hr : Room 18 (XL P w K mg base f c A outer s H0 E).A) : ∃ t, PS (XL P w K mg base f c A outer s H0 E) (fb 9) t ∧ ∀ (D : Ends) (G0 : Hp) (H : Hp) (sc p NL M s0 h : Addr) (ns : List Int) (a0 : Str × Int) (xs : List V) (qs : List Pk) (d : PyData) (cc : Nat) (o1 o7 o8 o9 o10 o11 o12 o13 : Option V), Ry G0 T' [p] p M NL xs qs cc H → Bf K sc ns M NL s0 xs qs a0 G0 → Hd K G0 p h d qs H → GL qs → a0 ∈ codesOf qs → cc ≤ 5000 →
      (∀ H' x, Ry G0 T' [p] p M NL xs qs (cc + 1) H' → Hd K G0 p h d qs H' → ImgG (wx [p] H') C x qs a0 → D.nx (sg sc o1 (some (.ref p)) (some (.ref NL)) (some (.ref M)) (some (.ref s0)) (some (.ref h)) o7 o8 o9 o10 (some (.ref x)) o12 o13) H') → t D (sg sc o1 (some (.ref p)) (some (.ref NL)) (some (.ref M)) (some (.ref s0)) (some (.ref h)) o7 o8 o9 o10 o11 o12 o13) H := by
  refine ⟨_, (ps_set (i := 11) scLaw.nd rfl (.inr rfl) (pe_makeI L.mki (hr.mono (by decide)) (by rfl) passN (pa_cons (pv 6) (pa_cons (pe_callH L.one (hr.mono (by decide)) (by rfl) pass0 (pa_cons (pv 2) (pa_cons (pe_lst (pa_cons (pv 5) (pa_cons (pe_callTy call_list_of (by rfl) L.bi.list (by decide +kernel) (pa_cons (pv 5) pa_nil)) pa_nil))) pa_nil))) pa_nil)))), ?_⟩
  intro D G0 H sc p NL M s0 h ns a0 xs qs d cc o1 o7 o8 o9 o10 o11 o12 o13 ry bf hd gl ha hc q
  have hst := bf.kp ry _ _ bf.st
  have hst0 := wx_sub _ _ hst
  have s0p : s0 ≠ p := fun z => by
    obtain ⟨_, _, _, e2, _⟩ := ry.pool.ex
    rw [z, e2] at hst0; cases hst0
  refine ⟨_, rfl, _, rfl, _, rfl, _, rfl, s0, _, rfl, .inr (SqT.of hst0), fun l1 n1 => ?_⟩
  have k1 := same_new (o := .lst [V.str a0.1, V.int a0.2]) n1
  have g1 : upd H l1 (.lst [V.str a0.1, V.int a0.2]) l1 = some (.lst [V.str a0.1, V.int a0.2]) := upd_same
  have l1p := pool_ne ry.pool n1
  generalize upd H l1 (.lst [V.str a0.1, V.int a0.2]) = H1 at k1 g1 ⊢
  refine ⟨(by show 2 ≤ sizeLine; decide), fun l2 n2 => ?_⟩
  have k2 := same_new (o := .lst [V.ref s0, V.ref l1]) n2
  have g2 : upd H1 l2 (.lst [V.ref s0, V.ref l1]) l2 = some (.lst [V.ref s0, V.ref l1]) := upd_same
  have ry1 := ry.same k1
  have l2p := pool_ne ry1.pool n2
  generalize upd H1 l2 (.lst [V.ref s0, V.ref l1]) = H2 at k2 g2 ⊢
  have S2 := k1.trans k2
  have ry2 := ry1.same k2
  refine ⟨p, l2, cc, _, rfl, ry2.pool, by omega, .inl (SqL.of g2), l2p, (by show 0 < 2; decide), (by show 2 < 1000000; decide), fun v o hv P3 => ?_⟩
  have d3 : Dr p H2 (upd H2 p o) := fun b x hb e => by rw [upd_ne hb]; exact e
  have ry3 := ry2.dr d3 P3
  have hd3 := (hd.ext (.of S2)).dr d3
  have hs3 := d3 _ _ s0p (S2 _ _ hst0)
  have hl3 := d3 _ _ l1p (k2 _ _ g1)
  generalize upd H2 p o = H3 at ry3 hd3 hs3 hl3 ⊢
  have nm := codes_nm gl ha
  have main : ∀ sd, Th K H3 v sd → okAd sd → readAdr sd = some a0 → ∀ x dx, H3 x = none → H3 dx = none → dx ≠ x → spImg K C CB CW CS (.ref x :: ([.ref h, v] ++ [])) (upd (upd H3 dx (.own x)) x (.ins C dx [])) (fun v H2 => v = .non ∧ gName 11 (.ref x) (sg sc o1 (some (.ref p)) (some (.ref NL)) (some (.ref M)) (some (.ref s0)) (some (.ref h)) o7 o8 o9 o10 o11 o12 o13) H2 D.nx) E0 := fun sd th ok rd x dx hx hdx hne =>
    img_go (thE_of (.dat (dp_same wx_sub hd3.dp))) th ok hd3.hd gl.bw rd (codes_start gl.nod ha) hx hdx hne fun H4 s4 hi => by
      have ry4 := ry3.same s4
      exact ⟨rfl, q H4 x ry4 (hd3.ext (.of s4)) (imgG_l (wx_l ry4.bl) hi)⟩
  rcases List.mem_cons.mp hv with rfl | hv
  · exact main (.tuple [.str a0.1, .int a0.2]) (.dat (.tup (SqT.of hs3) (.cons (.str _) (.cons (.int _) .nil)))) (ok_ad nm) (rd_ad nm.nm)
  · obtain rfl := List.mem_singleton.mp hv
    exact main (.list [.str a0.1, .int a0.2]) (.dat (.lst (SqL.of hl3) (.cons (.str _) (.cons (.int _) .nil)))) (ok_adL nm) (rd_adL nm.nm)
theorem s10 (L : TLw P w K mg base C CB CW CS fe T') (hr : Room 18 (XL P w K mg base f c A outer s H0 E).A) (hg : (XL P w K mg base f c A outer s H0 E).A.guards = some []) : ∃ t, PS (XL P w K mg base f c A outer s H0 E) (fb 10) t ∧ ∀ (D : Ends) (G0 : Hp) (H : Hp) (sc p NL M s0 h x : Addr) (ns : List Int) (a0 : Str × Int) (xs : List V) (qs : List Pk) (d : PyData) (cc : Nat) (o1 o7 o8 o9 o12 o13 : Option V), Ry G0 T' [p] p M NL xs qs cc H → Bf K sc ns M NL s0 xs qs a0 G0 → Hd K G0 p h d qs H → ImgG (wx [p] H) C x qs a0 → (∀ q ∈ qs, q.1 ∈ nm4) → 0 < qs.length →
      (∀ H', Ry G0 T' [p] p M NL xs qs cc H' → Hd K G0 p h d qs H' → ImgG (wx [p] H') C x qs a0 → D.nx (sg sc o1 (some (.ref p)) (some (.ref NL)) (some (.ref M)) (some (.ref s0)) (some (.ref h)) o7 o8 o9 (some (.str d.shown)) (some (.ref x)) o12 o13) H') → t D (sg sc o1 (some (.ref p)) (some (.ref NL)) (some (.ref M)) (some (.ref s0)) (some (.ref h)) o7 o8 o9 (some (.str d.shown)) (some (.ref x)) o12 o13) H := by
  have hu := hr.un
  refine ⟨_, (ps_if (PW.pt (pw_or (pt_cmpR op_ne (pe_callB (GA.call_repr_dat hg (by omega)) (by rfl) L.repr (by decide +kernel) (pa_cons (pv 6) pa_nil)) (pv 10) (nomark _)) (pw_or1 (pt_not (pt_val (pe_callH L.told (hr.mono (by decide)) (by rfl) pass0 (pa_cons (pv 11) (pa_cons (pv 4) (pa_cons (pv 5) pa_nil))))))))) (pss_one (ps_ret pe_bl)) pss_nil), ?_⟩
  intro D G0 H sc p NL M s0 h x ns a0 xs qs d cc o1 o7 o8 o9 o12 o13 ry bf hd hi nm l0 q
  obtain ⟨a, b, e, _⟩ := nl_show d hd.sh.nl
  refine ⟨_, rfl, h, d, rfl, dp_same wx_sub hd.dp, a, e, Nat.le_trans hd.sh.depth (by decide), hd.sh.len, _, rfl, rfl, false, by simp, iteF ?_⟩
  refine ⟨_, rfl, _, rfl, _, rfl, x, M, s0, xs, qs, a0, rfl, bf.ft ry hi, nm, l0, fun H1 e1 t1 => ⟨_, rfl, iteF ?_⟩⟩
  exact q H1 (ry.ext e1 t1) (hd.ext e1) (imgG_ext (KpX.ext (.ofN e1)) hi)
theorem s11 (L : TLw P w K mg base C CB CW CS fe T') (hr : Room 18 (XL P w K mg base f c A outer s H0 E).A) : ∃ t, PS (XL P w K mg base f c A outer s H0 E) (fb 11) t ∧ ∀ (D : Ends) (H : Hp) (sc x : Addr) (a0 : Str × Int) (qs : List Pk) (o1 o2 o3 o4 o5 o6 o7 o8 o9 o10 o12 o13 : Option V), ImgG H C x qs a0 →
      (∀ H' l ys, Same H H' → H l = none → H' l = some (.lst ys) → D.nx (sg sc o1 o2 o3 o4 o5 o6 o7 o8 o9 o10 (some (.ref x)) (some (.ref l)) o13) H') → t D (sg sc o1 o2 o3 o4 o5 o6 o7 o8 o9 o10 (some (.ref x)) o12 o13) H := by
  refine ⟨_, (ps_set (i := 12) scLaw.nd rfl (.inl rfl) (pe_methH0 L.ips (pv 11) (hr.mono (by decide)) pass0)), ?_⟩
  intro D H sc x a0 qs o1 o2 o3 o4 o5 o6 o7 o8 o9 o10 o12 o13 hi q
  obtain ⟨ok, dx, p, d, r, ys, ks, hx, hp, hys, hd, hks, hr0⟩ := id hi
  exact ⟨_, rfl, x, dx, _, rfl, hx, rfl, x, qs, a0, rfl, hi, fun d1 zs H1 s1 hd0 hd1 hzs => q H1 d1 zs s1 hd0 hd1⟩
theorem s12 : ∃ t, PS (XL P w K mg base f c A outer s H0 E) (fb 12) t ∧ ∀ (D : Ends) (H : Hp) (sc l : Addr) (ys : List V) (o1 o2 o3 o4 o5 o6 o7 o8 o9 o10 o11 o13 : Option V), H l = some (.lst ys) →
      (D.nx (sg sc o1 o2 o3 o4 o5 o6 o7 o8 o9 o10 o11 (some (.ref l)) o13) (upd H l (.lst []))) → t D (sg sc o1 o2 o3 o4 o5 o6 o7 o8 o9 o10 o11 (some (.ref l)) o13) H := by
  refine ⟨_, (ps_expr (pe_bm0 PySem.F.plainAttrs_list PySem.F.slot_list_clear PySem.F.type_list_clear mt_clear (pv 12))), ?_⟩
  intro D H sc l ys o1 o2 o3 o4 o5 o6 o7 o8 o9 o10 o11 o13 hl q
  exact ⟨_, rfl, .inl ⟨rfl, _, SqL.of hl⟩, l, ys, rfl, rfl, hl, q⟩
theorem s13 (L : TLw P w K mg base C CB CW CS fe T') : ∃ t, PS (XL P w K mg base f c A outer s H0 E) (fb 13) t ∧ ∀ (D : Ends) (G0 : Hp) (H : Hp) (sc h p : Addr) (qs : List Pk) (d : PyData) (o1 o2 o3 o4 o5 o7 o8 o9 o10 o11 o12 o13 : Option V), Hd K G0 p h d qs H →
      (∀ H', (H' = H ∨ ∃ ys, G0 h = none ∧ H h = some (.lst ys) ∧ H' = upd H h (.lst [])) → D.nx (sg sc o1 o2 o3 o4 o5 (some (.ref h)) o7 o8 o9 o10 o11 o12 o13) H') → t D (sg sc o1 o2 o3 o4 o5 (some (.ref h)) o7 o8 o9 o10 o11 o12 o13) H := by
  refine ⟨_, (ps_if (pt_val (pe_callB call_isi (by rfl) L.bi.isinstance (by decide +kernel) (pa_cons (pv 6) (pa_cons (pe_bltn (v := .ty "list") (by rfl) L.bi.list (by decide +kernel) rfl) pa_nil)))) (pss_one (ps_expr (pe_bm0 PySem.F.plainAttrs_list PySem.F.slot_list_clear PySem.F.type_list_clear mt_clear (pv 6)))) pss_nil), ?_⟩
  intro D G0 H sc h p qs d o1 o2 o3 o4 o5 o7 o8 o9 o10 o11 o12 o13 hd q
  have hdp : Dp K H (.ref h) d := dp_same wx_sub hd.dp
  refine ⟨_, rfl, .ref h, _, _, _, _, rfl, .ty "list", th_ty (.dat hdp), kit_list1 d, _, rfl, ?_⟩
  cases hdp with
  | @lst a xs ds hq _ =>
    obtain ⟨g, ys, hy⟩ := hd.gn ⟨_, rfl⟩
    exact iteT ⟨_, rfl, .inl ⟨rfl, _, SqL.of hy⟩, h, ys, rfl, rfl, hy, q _ (.inr ⟨ys, g, hy, rfl⟩)⟩
  | tup hq _ => exact iteF (q H (.inl rfl))
end
end DR

namespace DR
open PySem PySem.Spec PyProof.Rows L2
theorem GL.perm {qs qs' : List Pk} (h : GL qs) (e : qs.Perm qs') : GL qs' := by
  refine ⟨fun q hq => h.each q (e.mem_iff.mpr hq), (e.map _).nodup_iff.mp h.nod, by rw [← e.length_eq]; exact h.few, fun q hq w hw u hu => ?_⟩
  obtain ⟨z, hz, ez⟩ := h.own q (e.mem_iff.mpr hq) w hw u hu
  exact ⟨z, (e.map _).mem_iff.mp hz, ez⟩
theorem zz_no2 : ("zz" : Str) ∉ nm4 := by decide +kernel
/-- one more piece, without unknowns -/
theorem GL.zz {qs : List Pk} {k : Str} {ws : List (Int × Mul)} (h : GL qs) (n4 : ∀ q ∈ qs, q.1 ∈ nm4) (few : qs.length ≤ 9) (hk : k ∈ kinds2) (lw : ws.length ≤ 10) (hw : ∀ w ∈ ws, WdOk w.1 w.2 ∧ w.2 = []) : GL (("zz", k, ws) :: qs) := by
  refine ⟨fun q hq => ?_, ?_, by rw [List.length_cons]; omega, fun q hq w hw' u hu => ?_⟩
  · rcases List.mem_cons.mp hq with rfl | hq
    · exact ⟨zz_ok, hk, lw, fun w h' => (hw w h').1⟩
    · exact h.each q hq
  · refine List.nodup_cons.mpr ⟨fun hm => ?_, h.nod⟩
    obtain ⟨q, hq, e⟩ := List.mem_map.mp hm
    have := n4 q hq
    rw [e] at this
    exact zz_no2 this
  · rcases List.mem_cons.mp hq with rfl | hq
    · rw [(hw w hw').2] at hu; cases hu
    · obtain ⟨z, hz, ez⟩ := h.own q hq w hw' u hu
      exact ⟨z, List.mem_cons_of_mem _ hz, ez⟩
theorem GL.zzR {qs : List Pk} {k : Str} {ws : List (Int × Mul)} (h : GL qs) (n4 : ∀ q ∈ qs, q.1 ∈ nm4) (few : qs.length ≤ 9) (hk : k ∈ kinds2) (lw : ws.length ≤ 10) (hw : ∀ w ∈ ws, WdOk w.1 w.2 ∧ w.2 = []) : GL (qs ++ [(("zz", k, ws) : Pk)]) :=
  (h.zz n4 few hk lw hw).perm (List.perm_append_singleton _ _).symm
theorem mk_dat {K : PySem.W.Frag} {C CB CW CS : Addr} {H : Hp} {L : Addr} {zs : List V} {ds : List PyData} {sv : V} {sd : PyData} {qs : List Pk} {a : Str × Int} {Q : VK} {E : XK} {x dx : Addr} (hL : H L = some (.lst zs)) (hz : DpAll K H zs ds) (hp : PySem.W.EachIs PcD ds qs) (gl : GL qs) (th : Th K H sv sd) (ok : okAd sd) (rd : readAdr sd = some a) (ha : a ∈ codesOf qs) (hx : H x = none) (hdx : H dx = none) (hne : dx ≠ x) (q : ∀ H2, Same H H2 → ImgG H2 C x qs a → Q .non H2) :
    spImg K C CB CW CS (.ref x :: ([.ref L, sv] ++ [])) (upd (upd H dx (.own x)) x (.ins C dx [])) Q E :=
  img_go (thE_of (.dat (.lst (SqL.of hL) hz))) th ok ⟨⟨ds, rfl, hp⟩, gl.few, fun q hq => (gl.each q hq).few, gl.nod⟩ gl.bw rd (codes_start gl.nod ha) hx hdx hne q
theorem each_app {α β : Type} {R : α → β → Prop} : ∀ {as cs : List α} {bs ds : List β}, PySem.W.EachIs R as bs → PySem.W.EachIs R cs ds → PySem.W.EachIs R (as ++ cs) (bs ++ ds)
  | _, _, _, _, .nil, h => h
  | _, _, _, _, .cons h t, h' => .cons h (each_app t h')
theorem oth_s {C : Addr} {qs : List Pk} {a0 : Str × Int} {H H' : Hp} (e : Same H H') {v : V} (h : Oth C qs a0 H v) : Oth C qs a0 H' v := oth_l (.of e) h
theorem wd_n {n : Int} (h : Sz n) : WdOk n [] := wd_bare h
section
variable {P : Program} {w : World} {K : PySem.W.Frag} {mg : Str → Option Value} {base : Heap} {C CB CW CS fe f : Addr} {c : Value} {T' : List (Addr × Str)} {A : Around} {outer : List Env} {s : Shared} {H0 : Hp} {E : XK}
theorem s14 (L : TLw P w K mg base C CB CW CS fe T') (hr : Room 18 (XL P w K mg base f c A outer s H0 E).A) : ∃ t, PS (XL P w K mg base f c A outer s H0 E) (fb 14) t ∧ ∀ (D : Ends) (G0 : Hp) (H : Hp) (B : List Addr) (sc p NL M s0 x : Addr) (ns : List Int) (a0 : Str × Int) (xs : List V) (qs : List Pk) (cc : Nat) (o1 o6 o7 o8 o9 o10 o12 o13 : Option V), Ry G0 T' B p M NL xs qs cc H → Bf K sc ns M NL s0 xs qs a0 G0 → ImgG (wx B H) C x qs a0 → (∀ q ∈ qs, q.1 ∈ nm4) → 0 < qs.length → GL qs → a0 ∈ codesOf qs →
      (∀ H', Ry G0 T' B p M NL xs qs cc H' → ImgG (wx B H') C x qs a0 → D.nx (sg sc o1 (some (.ref p)) (some (.ref NL)) (some (.ref M)) (some (.ref s0)) o6 o7 o8 o9 o10 (some (.ref x)) o12 o13) H') → t D (sg sc o1 (some (.ref p)) (some (.ref NL)) (some (.ref M)) (some (.ref s0)) o6 o7 o8 o9 o10 (some (.ref x)) o12 o13) H := by
  have hu := hr.un
  obtain ⟨fd, F, hb⟩ := L.eqf
  refine ⟨_, (ps_if (PW.pt (pw_or (pt_not (pt_val (pe_callH L.told (hr.mono (by decide)) (by rfl) pass0 (pa_cons (pv 11) (pa_cons (pv 4) (pa_cons (pv 5) pa_nil)))))) (pw_or1 (pt_cmpR (op_neA (E := E0) F L.imq hb pass0 (hr.mono (by decide)) (by omega)) (pv 11) (pe_makeI L.mki (hr.mono (by decide)) (by rfl) passN (pa_cons (pv 4) (pa_cons (pv 5) pa_nil))) (nomark _))))) (pss_one (ps_ret pe_bl)) pss_nil), ?_⟩
  intro D G0 H B sc p NL M s0 x ns a0 xs qs cc o1 o6 o7 o8 o9 o10 o12 o13 ry bf hi nm l0 gl ha q
  refine ⟨_, rfl, _, rfl, _, rfl, x, M, s0, xs, qs, a0, rfl, bf.ft ry hi, nm, l0, fun H1 e1 t1 => ⟨_, rfl, iteF ?_⟩⟩
  have ry1 := ry.ext e1 t1
  have hi1 := imgG_ext (KpX.ext (.ofN e1)) hi
  have st1 := wx_sub _ _ (bf.kp ry1 _ _ bf.st)
  refine ⟨_, rfl, _, rfl, _, rfl, fun y dy hy hdy hne => mk_go ry1.lst ry1.each gl st1 ha hy hdy hne fun H2 s2 hi2 => ⟨rfl, ?_⟩⟩
  have hi3 : ImgG H2 C x qs a0 := imgG_s s2 (imgG_s wx_sub hi1)
  obtain ⟨_, dx, p1, d1, r1, ys1, ks1, hx1, _⟩ := id hi3
  obtain ⟨_, dx2, p2, d2, r2, ys2, ks2, hx2, _⟩ := id hi2
  refine ⟨x, y, dx, dx2, _, _, rfl, rfl, hx1, hx2, x, .ref y, qs, a0, rfl, hi3, .inl ⟨y, qs, a0, rfl, hi2, _, rfl, _, rfl, ?_⟩⟩
  rw [sameI_self gl.nmq]
  exact iteF (q H2 (ry1.same s2) (imgG_s (wx_mono s2) hi1))
theorem s15 (L : TLw P w K mg base C CB CW CS fe T') (hr : Room 18 (XL P w K mg base f c A outer s H0 E).A) : ∃ t, PS (XL P w K mg base f c A outer s H0 E) (fb 15) t ∧ ∀ (D : Ends) (H : Hp) (sc M s0 : Addr) (a0 : Str × Int) (xs : List V) (qs : List Pk) (o1 o2 o3 o6 o7 o8 o9 o10 o11 o12 o13 : Option V), Us M s0 xs qs a0 H → (∀ q ∈ qs, q.1 ∈ nm4) → qs.length ≤ 8 → GL qs → a0 ∈ codesOf qs →
      (∀ H' F ys, Same H H' → H F = none → H' F = some (.lst ys) → (∀ v ∈ ys, Oth C qs a0 H' v) → ys.length = 2 → D.nx (sg sc o1 o2 o3 (some (.ref M)) (some (.ref s0)) o6 o7 o8 o9 o10 o11 o12 (some (.ref F))) H') → t D (sg sc o1 o2 o3 (some (.ref M)) (some (.ref s0)) o6 o7 o8 o9 o10 o11 o12 o13) H := by
  refine ⟨_, (ps_set (i := 13) scLaw.nd rfl (.inl rfl) (pe_lst (pa_cons (pe_makeI L.mki (hr.mono (by decide)) (by rfl) passN (pa_cons (pe_op op_cat (pv 4) (pe_lst (pa_cons (pe_tup (pa_cons pe_str (pa_cons pe_str (pa_cons (pe_tup pa_nil) pa_nil)))) pa_nil))) (pa_cons (pv 5) pa_nil))) (pa_cons (pe_makeI L.mki (hr.mono (by decide)) (by rfl) passN (pa_cons (pe_op op_cat (pe_lst (pa_cons (pe_tup (pa_cons pe_str (pa_cons pe_str (pa_cons (pe_tup (pa_cons pe_int pa_nil)) pa_nil)))) pa_nil)) (pv 4)) (pa_cons (pv 5) pa_nil))) pa_nil)))), ?_⟩
  intro D H sc M s0 a0 xs qs o1 o2 o3 o6 o7 o8 o9 o10 o11 o12 o13 h nm few gl ha q
  have lx : xs.length = qs.length := h.each.length
  have ok0 := ok_ad (n := a0.2) (codes_nm gl ha)
  have rd0 := rd_ad (n := a0.2) (codes_nm gl ha).nm
  refine ⟨_, rfl, (by show 0 ≤ sizeLine; decide), fun t0 n0 => ⟨(by show 3 ≤ sizeLine; decide), fun t1 n1 => ⟨(by show 1 ≤ sizeLine; decide), fun l2 n2 => ?_⟩⟩⟩
  have k0 := same_new (o := .tup []) n0
  have g0 : upd H t0 (.tup []) t0 = some (.tup []) := upd_same
  generalize upd H t0 (.tup []) = J0 at k0 g0 n1 n2 ⊢
  have k1 := same_new (o := .tup [V.str "zz", V.str "data", V.ref t0]) n1
  have g1 : upd J0 t1 (.tup [V.str "zz", V.str "data", V.ref t0]) t1 = some (.tup [V.str "zz", V.str "data", V.ref t0]) := upd_same
  generalize upd J0 t1 (.tup [V.str "zz", V.str "data", V.ref t0]) = J1 at k1 g1 n2 ⊢
  have k2 := same_new (o := .lst [V.ref t1]) n2
  have g2 : upd J1 l2 (.lst [V.ref t1]) l2 = some (.lst [V.ref t1]) := upd_same
  generalize upd J1 l2 (.lst [V.ref t1]) = J2 at k2 g2 ⊢
  have S2 := k0.trans (k1.trans k2)
  have h2 := h.same S2
  refine ⟨M, l2, xs, _, rfl, rfl, h2.lst, g2, Nat.le_of_lt (small1000 (by simp; omega)), fun l3 n3 => ?_⟩
  have k3 := same_new (o := .lst (xs ++ [V.ref t1])) n3
  have g3 : upd J2 l3 (.lst (xs ++ [V.ref t1])) l3 = some (.lst (xs ++ [V.ref t1])) := upd_same
  generalize upd J2 l3 (.lst (xs ++ [V.ref t1])) = J3 at k3 g3 ⊢
  have h3 := h2.same k3
  have new1 : PieceG J3 (.ref t1) ("zz", "data", []) := ⟨t1, t0, [], rfl, k3 _ _ (k2 _ _ g1), k3 _ _ (k2 _ _ (k1 _ _ g0)), .nil⟩
  have gl1 : GL (qs ++ [(("zz", "data", []) : Pk)]) := gl.zzR nm (by omega) (by decide +kernel) (by decide) (fun w hw => by cases hw)
  refine ⟨_, rfl, fun x1 dx1 hx1 hdx1 hne1 => mk_go g3 (eachs_snoc new1 h3.each) gl1 h3.st (codes_mem (fun q hq _ => List.mem_append_left _ hq) ha) hx1 hdx1 hne1 fun H4 s4 hi1 => ⟨rfl, ?_⟩⟩
  have h4 := h3.same s4
  refine ⟨(by show 1 ≤ sizeLine; decide), fun t5 n5 => ⟨(by show 3 ≤ sizeLine; decide), fun t6 n6 => ⟨(by show 1 ≤ sizeLine; decide), fun l7 n7 => ?_⟩⟩⟩
  have k5 := same_new (o := .tup [V.int 5]) n5
  have g5 : upd H4 t5 (.tup [V.int 5]) t5 = some (.tup [V.int 5]) := upd_same
  generalize upd H4 t5 (.tup [V.int 5]) = J5 at k5 g5 n6 n7 ⊢
  have k6 := same_new (o := .tup [V.str "zz", V.str "code", V.ref t5]) n6
  have g6 : upd J5 t6 (.tup [V.str "zz", V.str "code", V.ref t5]) t6 = some (.tup [V.str "zz", V.str "code", V.ref t5]) := upd_same
  generalize upd J5 t6 (.tup [V.str "zz", V.str "code", V.ref t5]) = J6 at k6 g6 n7 ⊢
  have k7 := same_new (o := .lst [V.ref t6]) n7
  have g7 : upd J6 l7 (.lst [V.ref t6]) l7 = some (.lst [V.ref t6]) := upd_same
  generalize upd J6 l7 (.lst [V.ref t6]) = J7 at k7 g7 ⊢
  have S7 := k5.trans (k6.trans k7)
  have h7 := h4.same S7
  refine ⟨_, rfl, l7, M, _, xs, rfl, rfl, g7, h7.lst, Nat.le_of_lt (small1000 (by simp; omega)), fun l8 n8 => ?_⟩
  have k8 := same_new (o := .lst ([V.ref t6] ++ xs)) n8
  have g8 : upd J7 l8 (.lst ([V.ref t6] ++ xs)) l8 = some (.lst ([V.ref t6] ++ xs)) := upd_same
  generalize upd J7 l8 (.lst ([V.ref t6] ++ xs)) = J8 at k8 g8 ⊢
  have h8 := h7.same k8
  have d1 : Dp K J8 (.ref t6) (.tuple [.str "zz", .str "code", .tuple [.int 5]]) := .tup (SqT.of (k8 _ _ (k7 _ _ g6))) (.cons (.str _) (.cons (.str _) (.cons (.tup (SqT.of (k8 _ _ (k7 _ _ (k6 _ _ g5)))) (.cons (.int _) .nil)) .nil)))
  have w5 : WdOk 5 [] := wd_bare (by unfold Sz; decide)
  have gl2 : GL (("zz", "code", [(5, [])]) :: qs) := gl.zz nm (by omega) (by decide +kernel) (by decide) (fun w hw => by rw [List.mem_singleton.mp hw]; exact ⟨w5, rfl⟩)
  have p1 : PcD (.tuple [.str "zz", .str "code", .tuple [.int 5]]) ("zz", "code", [(5, [])]) := (show PSh _ (("zz", "code", [(5, [])]) : Pk) from ⟨_, [.int 5], rfl, rfl, .cons (bare_word w5 rfl) .nil⟩).pc zz_ok (by show ("code" : Str) ∈ kinds2; decide +kernel) (by show 1 ≤ 10; decide)
  refine ⟨_, rfl, fun x2 dx2 hx2 hdx2 hne2 => mk_dat g8 (.cons d1 (pieces_dp h8.each)) (.cons p1 (pcd_each gl.each)) gl2 (.dat (.tup (SqT.of h8.st) (.cons (.str _) (.cons (.int _) .nil)))) ok0 rd0 (codes_mem (fun q hq _ => List.mem_cons_of_mem _ hq) ha) hx2 hdx2 hne2 fun H9 s9 hi2 => ⟨rfl, (by show 2 ≤ sizeLine; decide), fun F nF => ?_⟩⟩
  have kF := same_new (o := .lst [V.ref x1, V.ref x2]) nF
  have S9 : Same H H9 := S2.trans (k3.trans (s4.trans (S7.trans (k8.trans s9))))
  have S49 : Same H4 H9 := S7.trans (k8.trans s9)
  refine q _ F _ (S9.trans kF) (none_of S9 nF) upd_same (fun v hv => ?_) rfl
  rcases List.mem_cons.mp hv with rfl | hv
  · exact ⟨x1, _, _, rfl, imgG_s (S49.trans kF) hi1, .inl fun e => by have := congrArg List.length e; simp at this⟩
  · obtain rfl := List.mem_singleton.mp hv
    exact ⟨x2, _, _, rfl, imgG_s kF hi2, .inl fun e => by have := congrArg List.length e; simp at this⟩
end
end DR

namespace DR
open PySem PySem.Spec PyProof.Rows L2
theorem cut_any (xs : List V) (r : Nat) : cutV xs none (some (r : Int)) = xs.take r := by
  unfold cutV
  rw [HT.sIx_none, HT.sIx_nat, List.drop_zero, Nat.sub_zero]
  by_cases h : r ≤ xs.length
  · rw [Nat.min_eq_left h]
  · rw [Nat.min_eq_right (by omega), List.take_length, List.take_of_length_le (by omega)]
theorem adT_dp {K : PySem.W.Frag} {H : Hp} {v : V} {a : Str × Int} (h : AdT H v a) : Dp K H v (adD a) := by
  obtain ⟨t, rfl, ht⟩ := h
  exact .tup (SqT.of ht) (.cons (.str _) (.cons (.int _) .nil))
section
variable {P : Program} {w : World} {K : PySem.W.Frag} {mg : Str → Option Value} {base : Heap} {C CB CW CS fe f : Addr} {c : Value} {T' : List (Addr × Str)} {A : Around} {outer : List Env} {s : Shared} {H0 : Hp} {E : XK}
theorem s16 (L : TLw P w K mg base C CB CW CS fe T') (hr : Room 18 (XL P w K mg base f c A outer s H0 E).A) : ∃ t, PS (XL P w K mg base f c A outer s H0 E) (fb 16) t ∧ ∀ (D : Ends) (H : Hp) (sc M s0 F : Addr) (a0 : Str × Int) (xs ys : List V) (qs : List Pk) (o1 o2 o3 o6 o7 o8 o9 o10 o11 o12 : Option V), Us M s0 xs qs a0 H → (∀ q ∈ qs, q.1 ∈ nm4) → qs.length ≤ 8 → GL qs → H F = some (.lst ys) → (∀ v ∈ ys, Oth C qs a0 H v) → ys.length = 2 →
      (∀ H' ys', (∀ b o, b ≠ F → H b = some o → H' b = some o) → H' F = some (.lst ys') → (∀ v ∈ ys', Oth C qs a0 H' v) → ys'.length = 3 → D.nx (sg sc o1 o2 o3 (some (.ref M)) (some (.ref s0)) o6 o7 o8 o9 o10 o11 o12 (some (.ref F))) H') → t D (sg sc o1 o2 o3 (some (.ref M)) (some (.ref s0)) o6 o7 o8 o9 o10 o11 o12 (some (.ref F))) H := by
  refine ⟨_, (ps_expr (pe_bm PySem.F.plainAttrs_list PySem.F.slot_list_append PySem.F.type_list_append mt_append (pv 13) (pa_cons (pe_makeI L.mki (hr.mono (by decide)) (by rfl) passN (pa_cons (pe_op op_cat (pv 4) (pe_lst (pa_cons (pe_tup (pa_cons pe_str (pa_cons pe_str (pa_cons (pe_tup (pa_cons pe_int pa_nil)) pa_nil)))) pa_nil))) (pa_cons (pe_tup (pa_cons pe_str (pa_cons pe_int pa_nil))) pa_nil))) pa_nil))), ?_⟩
  intro D H sc M s0 F a0 xs ys qs o1 o2 o3 o6 o7 o8 o9 o10 o11 o12 h nm few gl hF hys ly q
  have lx : xs.length = qs.length := h.each.length
  refine ⟨_, rfl, .inl ⟨rfl, _, SqL.of hF⟩, _, rfl, (by show 1 ≤ sizeLine; decide), fun t0 n0 => ⟨(by show 3 ≤ sizeLine; decide), fun t1 n1 => ⟨(by show 1 ≤ sizeLine; decide), fun l2 n2 => ?_⟩⟩⟩
  have k0 := same_new (o := .tup [V.int 0]) n0
  have g0 : upd H t0 (.tup [V.int 0]) t0 = some (.tup [V.int 0]) := upd_same
  generalize upd H t0 (.tup [V.int 0]) = J0 at k0 g0 n1 n2 ⊢
  have k1 := same_new (o := .tup [V.str "zz", V.str "code", V.ref t0]) n1
  have g1 : upd J0 t1 (.tup [V.str "zz", V.str "code", V.ref t0]) t1 = some (.tup [V.str "zz", V.str "code", V.ref t0]) := upd_same
  generalize upd J0 t1 (.tup [V.str "zz", V.str "code", V.ref t0]) = J1 at k1 g1 n2 ⊢
  have k2 := same_new (o := .lst [V.ref t1]) n2
  have g2 : upd J1 l2 (.lst [V.ref t1]) l2 = some (.lst [V.ref t1]) := upd_same
  generalize upd J1 l2 (.lst [V.ref t1]) = J2 at k2 g2 ⊢
  have S2 := k0.trans (k1.trans k2)
  have h2 := h.same S2
  refine ⟨M, l2, xs, _, rfl, rfl, h2.lst, g2, Nat.le_of_lt (small1000 (by simp; omega)), fun l3 n3 => ?_⟩
  have k3 := same_new (o := .lst (xs ++ [V.ref t1])) n3
  have g3 : upd J2 l3 (.lst (xs ++ [V.ref t1])) l3 = some (.lst (xs ++ [V.ref t1])) := upd_same
  generalize upd J2 l3 (.lst (xs ++ [V.ref t1])) = J3 at k3 g3 ⊢
  have h3 := h2.same k3
  refine ⟨(by show 2 ≤ sizeLine; decide), fun t4 n4 => ?_⟩
  have k4 := same_new (o := .tup [V.str "zz", V.int 0]) n4
  have g4 : upd J3 t4 (.tup [V.str "zz", V.int 0]) t4 = some (.tup [V.str "zz", V.int 0]) := upd_same
  generalize upd J3 t4 (.tup [V.str "zz", V.int 0]) = J4 at k4 g4 ⊢
  have h4 := h3.same k4
  have d1 : Dp K J4 (.ref t1) (.tuple [.str "zz", .str "code", .tuple [.int 0]]) := .tup (SqT.of (k4 _ _ (k3 _ _ (k2 _ _ g1)))) (.cons (.str _) (.cons (.str _) (.cons (.tup (SqT.of (k4 _ _ (k3 _ _ (k2 _ _ (k1 _ _ g0))))) (.cons (.int _) .nil)) .nil)))
  have w0 : WdOk 0 [] := wd_bare (by unfold Sz; decide)
  have gl2 : GL (qs ++ [(("zz", "code", [(0, [])]) : Pk)]) := gl.zzR nm (by omega) (by decide +kernel) (by decide) (fun w hw => by rw [List.mem_singleton.mp hw]; exact ⟨w0, rfl⟩)
  have p1 : PcD (.tuple [.str "zz", .str "code", .tuple [.int 0]]) ("zz", "code", [(0, [])]) := (show PSh _ (("zz", "code", [(0, [])]) : Pk) from ⟨_, [.int 0], rfl, rfl, .cons (bare_word w0 rfl) .nil⟩).pc zz_ok (by show ("code" : Str) ∈ kinds2; decide +kernel) (by show 1 ≤ 10; decide)
  have ha2 : (("zz", 0) : Str × Int) ∈ codesOf (qs ++ [(("zz", "code", [(0, [])]) : Pk)]) := List.mem_flatMap.mpr ⟨_, List.mem_append_right _ (List.mem_singleton.mpr rfl), by decide +kernel⟩
  refine fun x dx hx hdx hne => mk_dat (k4 _ _ g3) (dps_app (pieces_dp h4.each) (.cons d1 .nil)) (each_app (pcd_each gl.each) (.cons p1 .nil)) gl2 (sd := .tuple [.str "zz", .int 0]) (.dat (.tup (SqT.of g4) (.cons (.str _) (.cons (.int _) .nil)))) (ok_ad zz_ok) (rd_ad zz_ok.nm) ha2 hx hdx hne fun H9 s9 hi => ⟨rfl, ?_⟩
  have S9 : Same H H9 := S2.trans (k3.trans (k4.trans s9))
  have hF9 := S9 _ _ hF
  refine ⟨F, ys, .ref x, rfl, rfl, hF9, small1000 (by omega), ?_⟩
  have E9 : ExtL H9 (upd H9 F (.lst (ys ++ [V.ref x]))) := ExtL.put hF9
  refine q _ (ys ++ [.ref x]) (fun b o hb e => by rw [upd_ne hb]; exact S9 _ _ e) upd_same (fun v hv => ?_) (by simp [ly])
  rcases List.mem_append.mp hv with hv | hv
  · exact oth_l E9 (oth_s S9 (hys v hv))
  · obtain rfl := List.mem_singleton.mp hv
    exact ⟨x, _, _, rfl, imgG_l E9 hi, .inl fun e => by have := congrArg List.length e; simp at this⟩
theorem s17 (L : TLw P w K mg base C CB CW CS fe T') (hr : Room 18 (XL P w K mg base f c A outer s H0 E).A) : ∃ t, PS (XL P w K mg base f c A outer s H0 E) (fb 17) t ∧ ∀ (D : Ends) (H : Hp) (sc M s0 F : Addr) (a0 : Str × Int) (xs ys : List V) (qs : List Pk) (o1 o2 o3 o6 o7 o8 o9 o10 o11 o12 : Option V), Us M s0 xs qs a0 H → qs.length ≤ 8 → GL qs → H F = some (.lst ys) → (∀ v ∈ ys, Oth C qs a0 H v) → ys.length = 3 →
      (∀ H' F' ys', Same H H' → H F' = none → H' F' = some (.lst ys') → (∀ v ∈ ys', Oth C qs a0 H' v) → ys'.length ≤ 6 → D.nx (sg sc o1 o2 o3 (some (.ref M)) (some (.ref s0)) o6 o7 o8 o9 o10 o11 o12 (some (.ref F'))) H') → t D (sg sc o1 o2 o3 (some (.ref M)) (some (.ref s0)) o6 o7 o8 o9 o10 o11 o12 (some (.ref F))) H := by
  refine ⟨_, (ps_set (i := 13) scLaw.nd rfl (.inl rfl) (pe_op op_cat (pv 13) (pe_lc (own := [("at", 14)]) (g := gName 14) (tt := tTest (tOp (rNeP K) (tVar 14) (tVar 5))) (te := tMake C (spImg K C CB CW CS) [] E0 (tCons (tVar 4) (tCons (tVar 14) tNil))) rfl scLaw.nd (pi_seqB (pe_slice sl_list (pe_callH L.codes (hr.mono (by decide)) (by rfl) pass0 (pa_cons (pv 4) pa_nil)) po_none (po_some pe_int))) (blkOk_by (N := NLw) (sc := defScope sLaw) (by decide +kernel)) (fun _ _ _ _ _ => pg_name (i := 14) scLaw.nd rfl (.inl rfl)) (fun _ _ _ _ _ => pts_one (pt_cmpR (op_neP hr) (pv 14) (pv 5) (nomark _))) (fun _ _ _ _ _ => (pe_makeI L.mki (hr.mono (by decide)) (by rfl) passN (pa_cons (pv 4) (pa_cons (pv 14) pa_nil))))))), ?_⟩
  intro D H sc M s0 F a0 xs ys qs o1 o2 o3 o6 o7 o8 o9 o10 o11 o12 h few gl hF hys ly q
  refine ⟨_, rfl, _, rfl, M, xs, qs, rfl, h.lst, h.each, by omega, fun q hq => (gl.each q hq).few, fun Fc us H1 k1 nFc hFc hus => ?_⟩
  refine ⟨_, rfl, Fc, us, rfl, SqL.of hFc, fun l2 n2 => ?_⟩
  have k2 := same_new (o := .lst (cutV us none (some 3))) n2
  have g2 : upd H1 l2 (.lst (cutV us none (some 3))) l2 = some (.lst (cutV us none (some 3))) := upd_same
  rw [show cutV us none (some 3) = us.take 3 from cut_any us 3] at k2 g2 ⊢
  generalize upd H1 l2 (.lst (us.take 3)) = H2 at k2 g2 ⊢
  have S2 := k1.trans k2
  have h2 := h.same S2
  have hu2 : PySem.W.EachIs (AdT H2) (us.take 3) ((codesOf qs).take 3) := each_take 3 (eachs_imp (fun _ _ => adT_s (TupS.of k2)) hus)
  have l3 : (us.take 3).length ≤ 3 := by rw [List.length_take]; omega
  refine ⟨l2, _, true, rfl, SqL.of g2, fun J Gd W hG => fun F2 hF2 => ?_⟩
  have ok0 : (adD a0).plain = true := rfl
  refine lc_it W (fun i Hj => Same H2 Hj ∧ ∃ zs, Hj F2 = some (.lst zs) ∧ zs.length ≤ i ∧ ∀ v ∈ zs, Oth C qs a0 Hj v)
    ⟨same_new hF2, [], upd_same, Nat.le_refl _, fun v hv => by cases hv⟩ (fun i Hj _ ⟨sj, _⟩ => hG Hj (SqL.of (sj _ _ g2))) ?_ ?_
  · rintro i u Hj' Hj hi ⟨sj, zs, hz, lz, hzs⟩ ⟨rfl, hu⟩
    obtain ⟨a, ha, had⟩ := eachs_get hu2 hu
    have ha := List.mem_of_mem_take (List.mem_of_getElem? ha)
    have hj := h2.same sj
    have hadj := adT_s (TupS.of sj) had
    refine ⟨rfl, _, rfl, _, rfl, adD a, adD a0, adT_dp hadj, .tup (SqT.of hj.st) (.cons (.str _) (.cons (.int _) .nil)), rfl, rfl, (by simp [adD, PyData.depth, PyData.depthAll]), _, rfl, ?_⟩
    by_cases e : a = a0
    · rw [e, SeqAt.eqv_refl_plain (adD a0) rfl]
      exact iteF ⟨sj, zs, hz, by omega, hzs⟩
    · have e2 : PyData.eqv (adD a) (adD a0) = false := by
        cases z : PyData.eqv (adD a) (adD a0) with
        | false => rfl
        | true => exact absurd (ad_inj z) e
      rw [e2]
      obtain ⟨t, rfl, ht⟩ := hadj
      refine iteT ⟨_, rfl, _, rfl, fun x dx hx hdx hne => mk_go hj.lst hj.each gl ht ha hx hdx hne fun H5 s5 hi => ⟨rfl, zs, s5 _ _ hz, small1000 (by omega), ?_⟩⟩
      have hz5 := s5 _ _ hz
      have E5 : ExtL H5 (upd H5 F2 (.lst (zs ++ [V.ref x]))) := ExtL.put hz5
      refine ⟨fun b o e => by rw [upd_ne (ne_of_none e hF2)]; exact s5 _ _ (sj _ _ e), zs ++ [.ref x], upd_same, by simp; omega, fun v hv => ?_⟩
      rcases List.mem_append.mp hv with hv | hv
      · exact oth_l E5 (oth_s s5 (hzs v hv))
      · obtain rfl := List.mem_singleton.mp hv
        exact ⟨x, _, _, rfl, imgG_l E5 hi, .inr fun z => e z.symm⟩
  · rintro Hj ⟨sj, zs, hz, lz, hzs⟩
    have Sj := S2.trans sj
    refine ⟨F, F2, ys, zs, rfl, rfl, Sj _ _ hF, hz, Nat.le_of_lt (small1000 (by omega)), fun F' nF => ?_⟩
    have kF := same_new (o := .lst (ys ++ zs)) nF
    refine q _ F' _ (Sj.trans kF) (none_of Sj nF) upd_same (fun v hv => ?_) (by rw [List.length_append]; omega)
    rcases List.mem_append.mp hv with hv | hv
    · exact oth_s (Sj.trans kF) (hys v hv)
    · exact oth_s kF (hzs v hv)
end
end DR

namespace DR
open PySem PySem.Spec PyProof.Rows L2
section
variable {P : Program} {w : World} {K : PySem.W.Frag} {mg : Str → Option Value} {base : Heap} {C CB CW CS fe f : Addr} {c : Value} {T' : List (Addr × Str)} {A : Around} {outer : List Env} {s : Shared} {H0 : Hp} {E : XK}
theorem s18 (L : TLw P w K mg base C CB CW CS fe T') (hr : Room 18 (XL P w K mg base f c A outer s H0 E).A) : ∃ t, PS (XL P w K mg base f c A outer s H0 E) (fb 18) t ∧ ∀ (D : Ends) (H : Hp) (sc p M s0 F : Addr) (a0 : Str × Int) (xs ys : List V) (z : Str) (wl : List (Int × Mul)) (qs : List Pk) (o1 o3 o6 o7 o8 o9 o10 o11 o12 : Option V), Us M s0 xs ((z, "code", wl ++ [(0, [])]) :: qs) a0 H → GL ((z, "code", wl ++ [(0, [])]) :: qs) → a0 ∈ codesOf ((z, "code", wl ++ [(0, [])]) :: qs) → H F = some (.lst ys) → (∀ v ∈ ys, Oth C ((z, "code", wl ++ [(0, [])]) :: qs) a0 H v) → ys.length ≤ 6 →
      (∀ H' F' ys', Same H H' → H' F' = some (.lst ys') → (∀ v ∈ ys', Oth C ((z, "code", wl ++ [(0, [])]) :: qs) a0 H' v) → ys'.length ≤ 10 → D.nx (sg sc o1 (some (.ref p)) o3 (some (.ref M)) (some (.ref s0)) o6 o7 o8 o9 o10 o11 o12 (some (.ref F'))) H') → t D (sg sc o1 (some (.ref p)) o3 (some (.ref M)) (some (.ref s0)) o6 o7 o8 o9 o10 o11 o12 (some (.ref F))) H := by
  refine ⟨_, (ps_set (i := 13) scLaw.nd rfl (.inl rfl) (pe_op op_cat (pv 13) (pe_callH L.unl (hr.mono (by decide)) (by rfl) pass0 (pa_cons (pv 2) (pa_cons (pv 4) (pa_cons (pv 5) pa_nil)))))), ?_⟩
  intro D H sc p M s0 F a0 xs ys z wl qs o1 o3 o6 o7 o8 o9 o10 o11 o12 h gl ha hF hys ly q
  refine ⟨_, rfl, _, rfl, _, rfl, _, rfl, p, M, s0, xs, qs, a0, z, "code", wl, rfl, h, gl, ha, fun F1 zs H1 k1 nF1 hF1 hzs lz => ?_⟩
  refine ⟨F, F1, ys, zs, rfl, rfl, k1 _ _ hF, hF1, Nat.le_of_lt (small1000 (by omega)), fun F' nF => ?_⟩
  have kF := same_new (o := .lst (ys ++ zs)) nF
  refine q _ F' _ (k1.trans kF) upd_same (fun v hv => ?_) (by rw [List.length_append]; omega)
  rcases List.mem_append.mp hv with hv | hv
  · exact oth_s (k1.trans kF) (hys v hv)
  · exact oth_s kF (hzs v hv)
/-- what an image is compared with -/
def Itm (K : PySem.W.Frag) (C : Addr) (qs : List Pk) (a0 : Str × Int) (H : Hp) (v : V) : Prop := Oth C qs a0 H v ∨ ∃ d, Th K H v d
theorem itm_s {K : PySem.W.Frag} {C : Addr} {qs : List Pk} {a0 : Str × Int} {H H' : Hp} (e : Same H H') {v : V} (h : Itm K C qs a0 H v) : Itm K C qs a0 H' v := h.imp (oth_s e) fun ⟨d, t⟩ => ⟨d, th_same e t⟩
theorem s19 (L : TLw P w K mg base C CB CW CS fe T') (hr : Room 18 (XL P w K mg base f c A outer s H0 E).A) : ∃ t, PS (XL P w K mg base f c A outer s H0 E) (fb 19) t ∧ ∀ (D : Ends) (H : Hp) (sc M s0 x F : Addr) (a0 : Str × Int) (xs ys : List V) (qs : List Pk) (o1 o2 o3 o6 o7 o8 o9 o10 o12 : Option V), Us M s0 xs qs a0 H → GL qs → ImgG H C x qs a0 → H F = some (.lst ys) → (∀ v ∈ ys, Oth C qs a0 H v) → ys.length ≤ 10 →
      (∀ H', Same H H' → D.nx (sg sc o1 o2 o3 (some (.ref M)) (some (.ref s0)) o6 o7 o8 o9 o10 (some (.ref x)) o12 (some (.ref F))) H') → t D (sg sc o1 o2 o3 (some (.ref M)) (some (.ref s0)) o6 o7 o8 o9 o10 (some (.ref x)) o12 (some (.ref F))) H := by
  obtain ⟨fd, FE, hb⟩ := L.eqf
  refine ⟨_, (ps_if (pt_val (pe_callB (cr_any rfl) (by rfl) L.any (by decide +kernel) (pa_cons (pe_lc (own := [("other", 15)]) (g := gName 15) (tt := tYes) (te := tOp (rEqA K C (spEqI K C) E0) (tVar 11) (tVar 15)) rfl scLaw.nd (pi_seqB (pe_op op_cat (pv 13) (pe_lst (pa_cons pe_non (pa_cons pe_int (pa_cons (pv 4) (pa_cons (pe_tup (pa_cons (pv 4) (pa_cons (pv 5) pa_nil))) pa_nil))))))) (blkOk_by (N := NLw) (sc := defScope sLaw) (by decide +kernel)) (fun _ _ _ _ _ => pg_name (i := 15) scLaw.nd rfl (.inl rfl)) (fun _ _ _ _ _ => pts_nil) (fun _ _ _ _ _ => (pe_cmpR (op_eqA (E := E0) FE L.imq.eq L.imq.fn hb pass0 (hr.mono (by decide))) (pv 11) (pv 15) (nomark _)))) pa_nil))) (pss_one (ps_ret pe_bl)) pss_nil), ?_⟩
  intro D H sc M s0 x F a0 xs ys qs o1 o2 o3 o6 o7 o8 o9 o10 o12 h gl hi hF hys ly q
  refine ⟨_, rfl, _, rfl, _, rfl, _, rfl, (by show 2 ≤ sizeLine; decide), fun t1 n1 => ⟨(by show 4 ≤ sizeLine; decide), fun l2 n2 => ?_⟩⟩
  have k1 := same_new (o := .tup [V.ref M, V.ref s0]) n1
  have g1 : upd H t1 (.tup [V.ref M, V.ref s0]) t1 = some (.tup [V.ref M, V.ref s0]) := upd_same
  generalize upd H t1 (.tup [V.ref M, V.ref s0]) = H1 at k1 g1 n2 ⊢
  have k2 := same_new (o := .lst [V.non, V.int 5, V.ref M, V.ref t1]) n2
  have g2 : upd H1 l2 (.lst [V.non, V.int 5, V.ref M, V.ref t1]) l2 = some (.lst [V.non, V.int 5, V.ref M, V.ref t1]) := upd_same
  generalize upd H1 l2 (.lst [V.non, V.int 5, V.ref M, V.ref t1]) = H2 at k2 g2 ⊢
  have S2 := k1.trans k2
  refine ⟨F, l2, ys, _, rfl, rfl, S2 _ _ hF, g2, Nat.le_of_lt (small1000 (by simp; omega)), fun l3 n3 => ?_⟩
  have k3 := same_new (o := .lst (ys ++ [V.non, V.int 5, V.ref M, V.ref t1])) n3
  have g3 : upd H2 l3 (.lst (ys ++ [V.non, V.int 5, V.ref M, V.ref t1])) l3 = some (.lst (ys ++ [V.non, V.int 5, V.ref M, V.ref t1])) := upd_same
  generalize upd H2 l3 (.lst (ys ++ [V.non, V.int 5, V.ref M, V.ref t1])) = H3 at k3 g3 ⊢
  have S3 := S2.trans k3
  have h3 := h.same S3
  have hi3 := imgG_s S3 hi
  have g13 : H3 t1 = some (.tup [V.ref M, V.ref s0]) := k3 _ _ (k2 _ _ g1)
  have dM : Dp K H3 (.ref M) (.list (qs.map pkD)) := .lst (SqL.of h3.lst) (pieces_dp h3.each)
  have items : ∀ v ∈ ys ++ [V.non, V.int 5, V.ref M, V.ref t1], Itm K C qs a0 H3 v := fun v hv => by
    rcases List.mem_append.mp hv with hv | hv
    · exact .inl (oth_s S3 (hys v hv))
    · simp only [List.mem_cons, List.not_mem_nil, or_false] at hv
      rcases hv with rfl | rfl | rfl | rfl
      · exact .inr ⟨_, .dat .non⟩
      · exact .inr ⟨_, .dat (.int _)⟩
      · exact .inr ⟨_, .dat dM⟩
      · exact .inr ⟨_, .dat (.tup (SqT.of g13) (.cons dM (.cons (.tup (SqT.of h3.st) (.cons (.str _) (.cons (.int _) .nil))) .nil)))⟩
  have li : (ys ++ [V.non, V.int 5, V.ref M, V.ref t1]).length ≤ 14 := by simp; omega
  generalize ys ++ [V.non, V.int 5, V.ref M, V.ref t1] = its at g3 items li k3
  refine ⟨l3, its, true, rfl, SqL.of g3, fun J Gd W hG => fun F2 hF2 => ?_⟩
  refine lc_it W (fun i Hj => Same H3 Hj ∧ Hj F2 = some (.lst ((List.replicate i false).map V.bl)))
    ⟨same_new hF2, upd_same⟩ (fun i Hj _ ⟨sj, _⟩ => hG Hj (SqL.of (sj _ _ g3))) ?_ ?_
  · rintro i u Hj' Hj hi4 ⟨sj, hz⟩ ⟨rfl, hu⟩
    have hij := imgG_s sj hi3
    obtain ⟨_, dx, p1, d1, r1, ys1, ks1, hx1, _⟩ := id hij
    have fin : ∃ acc, Hj F2 = some (.lst acc) ∧ acc.length < sizeLine ∧ (Same H3 (upd Hj F2 (.lst (acc ++ [V.bl false]))) ∧ upd Hj F2 (.lst (acc ++ [V.bl false])) F2 = some (.lst ((List.replicate (i + 1) false).map V.bl))) := by
      refine ⟨_, hz, small1000 (by simp; omega), same_upd sj hF2, ?_⟩
      rw [upd_same, List.replicate_succ', List.map_append]
      rfl
    refine ⟨rfl, yes_go ⟨_, rfl, _, rfl, ?_⟩⟩
    rcases itm_s sj (items u (List.mem_of_getElem? hu)) with ⟨y, qs', b0, rfl, hy, ne⟩ | ⟨d, th⟩
    · obtain ⟨_, dx2, p2, d2, r2, ys2, ks2, hx2, _⟩ := id hy
      refine ⟨x, dx, _, .ref C, rfl, hx1, insTy L.imc.cl L.imq hx2, by simp [PySem.W.notFirst], x, .ref y, qs, a0, rfl, hij, .inl ⟨y, qs', b0, rfl, hy, ?_⟩⟩
      rw [sameI_not gl.nmq hy.1.nm ne]
      exact fin
    · exact ⟨x, dx, _, _, rfl, hx1, th_ty th, L.imq.nf _ (tyN_mem d), x, u, qs, a0, rfl, hij, .inr ⟨d, th, fin⟩⟩
  · rintro Hj ⟨sj, hz⟩
    refine ⟨F2, _, rfl, SqL.of hz, _, rfl, ?_⟩
    rw [show (List.replicate its.length false).any id = false from by simp]
    exact iteF (q Hj (S3.trans sj))
theorem wx_p {B : List Addr} {p : Addr} {H : Hp} (hp : p ∈ B) : Same (wx B H) (wx [p] H) := fun b x e => by
  by_cases h : b ∈ B
  · rw [wx_in h] at e; cases e
  · rw [wx_out h] at e
    rw [wx_out fun z => h (by rw [List.mem_singleton.mp z]; exact hp)]
    exact e
theorem s20 (L : TLw P w K mg base C CB CW CS fe T') (hr : Room 18 (XL P w K mg base f c A outer s H0 E).A) : ∃ t, PS (XL P w K mg base f c A outer s H0 E) (fb 20) t ∧ ∀ (D : Ends) (G0 : Hp) (H : Hp) (B : List Addr) (sc p NL M s0 : Addr) (ns : List Int) (a0 : Str × Int) (xs : List V) (z : Str) (wl : List (Int × Mul)) (qs : List Pk) (cc : Nat) (o1 o6 o7 o8 o9 o10 o11 o12 o13 : Option V), Ry G0 T' B p M NL xs ((z, "code", wl ++ [(0, [])]) :: qs) cc H → Bf K sc ns M NL s0 xs ((z, "code", wl ++ [(0, [])]) :: qs) a0 G0 → Gd z wl qs → cc < 80000 →
      (∀ H', SqL K H' sc (ns.map V.int) → LamX.Tabs T' H' → D.nx (sg sc o1 (some (.ref p)) (some (.ref NL)) (some (.ref M)) (some (.ref s0)) o6 o7 o8 o9 o10 o11 o12 o13) H') → t D (sg sc o1 (some (.ref p)) (some (.ref NL)) (some (.ref M)) (some (.ref s0)) o6 o7 o8 o9 o10 o11 o12 o13) H := by
  refine ⟨_, (ps_if (pt_not (pt_val (pe_callH L.ref (hr.mono (by decide)) (by rfl) pass0 (pa_cons (pv 2) (pa_cons (pv 4) (pa_cons (pv 3) (pa_cons (pv 5) pa_nil))))))) (pss_one (ps_ret pe_bl)) pss_nil), ?_⟩
  intro D G0 H B sc p NL M s0 ns a0 xs z wl qs cc o1 o6 o7 o8 o9 o10 o11 o12 o13 ry bf gd hc q
  have few := gd.few
  have ne : ∀ {b : Addr} {ys : List V}, wx B H b = some (.lst ys) → b ≠ p := fun e y => by
    rw [y, wx_in ry.pB] at e; cases e
  refine ⟨_, rfl, _, rfl, _, rfl, _, rfl, p, M, NL, .ref s0, xs, _, qs, cc, rfl, ry.pool, hc, ry.lst, ry.each, ry.nms, ne ry.rx.lst, ne ry.rx.nms, ry.tabs, gd.gl, gd.n4, (by simp; omega), Nat.le_trans (gd.l4 _ (List.mem_cons_self ..)) (by decide), fun H1 e1 t1 => ⟨_, rfl, iteF ?_⟩⟩
  exact q H1 (sqL_ext e1 (sqL_same (wx_p ry.pB) (sqL_same (bf.kp ry) bf.script))) t1
end
end DR

namespace DR
open PySem PySem.Spec PyProof.Rows L2
section
variable {P : Program} {w : World} {K : PySem.W.Frag} {mg : Str → Option Value} {base : Heap} {C CB CW CS fe f : Addr} {c : Value} {T' : List (Addr × Str)} {A : Around} {outer : List Env} {s : Shared} {H0 : Hp} {E : XK}
theorem law_go (L : TLw P w K mg base C CB CW CS fe T') (hr : Room 18 (XL P w K mg base f c A outer s H0 E).A) (hg : (XL P w K mg base f c A outer s H0 E).A.guards = some []) : ∃ t, PSs (XL P w K mg base f c A outer s H0 E) (defBody sLaw) t ∧ ∀ (H : Hp) (sc : Addr) (ns : List Int) (Q : VK), SqL K H sc (ns.map V.int) → LamX.Tabs T' H → (∀ H', Q (.bl true) H') →
      t { nx := fun _ H' => Q .non H', rt := Q } (start NLw [.ref sc]) H := by
  obtain ⟨t0, h0, q0⟩ := s0 (P := P) (w := w) (K := K) (mg := mg) (base := base) (A := A) (outer := outer) (s := s) (H0 := H0) (f := f) (c := c) (E := E) L hr
  obtain ⟨t1, h1, q1⟩ := s1 (P := P) (w := w) (K := K) (mg := mg) (base := base) (A := A) (outer := outer) (s := s) (H0 := H0) (f := f) (c := c) (E := E) L hr
  obtain ⟨t2, h2, q2⟩ := s2 (P := P) (w := w) (K := K) (mg := mg) (base := base) (A := A) (outer := outer) (s := s) (H0 := H0) (f := f) (c := c) (E := E) L hr
  obtain ⟨t3, h3, q3⟩ := s3 (P := P) (w := w) (K := K) (mg := mg) (base := base) (A := A) (outer := outer) (s := s) (H0 := H0) (f := f) (c := c) (E := E) L hr
  obtain ⟨t4, h4, q4⟩ := s4 (P := P) (w := w) (K := K) (mg := mg) (base := base) (A := A) (outer := outer) (s := s) (H0 := H0) (f := f) (c := c) (E := E) L hr
  obtain ⟨t5, h5, q5⟩ := s5 (P := P) (w := w) (K := K) (mg := mg) (base := base) (A := A) (outer := outer) (s := s) (H0 := H0) (f := f) (c := c) (E := E)
  obtain ⟨t6, h6, q6⟩ := s6 (P := P) (w := w) (K := K) (mg := mg) (base := base) (A := A) (outer := outer) (s := s) (H0 := H0) (f := f) (c := c) (E := E) L hr
  obtain ⟨t7, h7, q7⟩ := s7 (P := P) (w := w) (K := K) (mg := mg) (base := base) (A := A) (outer := outer) (s := s) (H0 := H0) (f := f) (c := c) (E := E) L hr
  obtain ⟨t8, h8, q8⟩ := s8 (P := P) (w := w) (K := K) (mg := mg) (base := base) (A := A) (outer := outer) (s := s) (H0 := H0) (f := f) (c := c) (E := E) L hr hg
  obtain ⟨t9, h9, q9⟩ := s9 (P := P) (w := w) (K := K) (mg := mg) (base := base) (A := A) (outer := outer) (s := s) (H0 := H0) (f := f) (c := c) (E := E) L hr
  obtain ⟨t10, h10, q10⟩ := s10 (P := P) (w := w) (K := K) (mg := mg) (base := base) (A := A) (outer := outer) (s := s) (H0 := H0) (f := f) (c := c) (E := E) L hr hg
  obtain ⟨t11, h11, q11⟩ := s11 (P := P) (w := w) (K := K) (mg := mg) (base := base) (A := A) (outer := outer) (s := s) (H0 := H0) (f := f) (c := c) (E := E) L hr
  obtain ⟨t12, h12, q12⟩ := s12 (P := P) (w := w) (K := K) (mg := mg) (base := base) (A := A) (outer := outer) (s := s) (H0 := H0) (f := f) (c := c) (E := E)
  obtain ⟨t13, h13, q13⟩ := s13 (P := P) (w := w) (K := K) (mg := mg) (base := base) (A := A) (outer := outer) (s := s) (H0 := H0) (f := f) (c := c) (E := E) L
  obtain ⟨t14, h14, q14⟩ := s14 (P := P) (w := w) (K := K) (mg := mg) (base := base) (A := A) (outer := outer) (s := s) (H0 := H0) (f := f) (c := c) (E := E) L hr
  obtain ⟨t15, h15, q15⟩ := s15 (P := P) (w := w) (K := K) (mg := mg) (base := base) (A := A) (outer := outer) (s := s) (H0 := H0) (f := f) (c := c) (E := E) L hr
  obtain ⟨t16, h16, q16⟩ := s16 (P := P) (w := w) (K := K) (mg := mg) (base := base) (A := A) (outer := outer) (s := s) (H0 := H0) (f := f) (c := c) (E := E) L hr
  obtain ⟨t17, h17, q17⟩ := s17 (P := P) (w := w) (K := K) (mg := mg) (base := base) (A := A) (outer := outer) (s := s) (H0 := H0) (f := f) (c := c) (E := E) L hr
  obtain ⟨t18, h18, q18⟩ := s18 (P := P) (w := w) (K := K) (mg := mg) (base := base) (A := A) (outer := outer) (s := s) (H0 := H0) (f := f) (c := c) (E := E) L hr
  obtain ⟨t19, h19, q19⟩ := s19 (P := P) (w := w) (K := K) (mg := mg) (base := base) (A := A) (outer := outer) (s := s) (H0 := H0) (f := f) (c := c) (E := E) L hr
  obtain ⟨t20, h20, q20⟩ := s20 (P := P) (w := w) (K := K) (mg := mg) (base := base) (A := A) (outer := outer) (s := s) (H0 := H0) (f := f) (c := c) (E := E) L hr
  refine ⟨_, pss_cons (ps_for (passes_of rfl) rfl (pi_range1 (by rfl) L.bi.range (pa_cons pe_int pa_nil)) (pg_name (i := 1) scLaw.nd rfl (.inl rfl)) (pss_cons h0 (pss_cons h1 (pss_cons h2 (pss_cons h3 (pss_cons h4 (pss_cons h5 (pss_cons h6 (pss_cons h7 (pss_cons h8 (pss_cons h9 (pss_cons h10 (pss_cons h11 (pss_cons h12 (pss_cons h13 (pss_cons h14 (pss_cons h15 (pss_cons h16 (pss_cons h17 (pss_cons h18 (pss_cons h19 (pss_one h20)))))))))))))))))))))) (pss_one (ps_ret pe_bl)), ?_⟩
  intro H sc ns Q hs hT q
  refine ⟨5, rfl, by decide, by decide, ?_⟩
  refine for_it walk_range (fun i σ H4 => ∃ (o1 o2 o3 o4 o5 o6 o7 o8 o9 o10 o11 o12 o13 : Option V), σ = sg sc o1 o2 o3 o4 o5 o6 o7 o8 o9 o10 o11 o12 o13 ∧ SqL K H4 sc (ns.map V.int) ∧ LamX.Tabs T' H4)
    ⟨none, none, none, none, none, none, none, none, none, none, none, none, none, rfl, hs, hT⟩ (fun _ _ _ _ _ => trivial) ?_ ?_
  · rintro i x σ Ha Hb hi ⟨o1, o2, o3, o4, o5, o6, o7, o8, o9, o10, o11, o12, o13, rfl, hs4, hT4⟩ ⟨rfl, rfl⟩
    have ez : (0 : Int) + (i : Int) = (i : Int) := by omega
    show (tSeq t0 _) _ (sg sc (some (.int (0 + (i : Int)))) o2 o3 o4 o5 o6 o7 o8 o9 o10 o11 o12 o13) _
    rw [ez]
    refine q0 _ _ sc ns i _ _ _ _ _ _ _ _ _ _ _ _ hs4 hT4 fun H1 p rq1 => ?_
    refine q1 _ H1 sc p ns _ _ _ _ _ _ _ _ _ _ _ _ rq1 fun H2 NL zs rq2 Np hN nz => ?_
    refine q2 _ H2 sc p NL ns zs _ _ _ _ _ _ _ _ _ _ _ rq2 Np hN nz fun H3 M xs qs c3 rq3 sq3 hc3 Mp NM hN3 hM3 hxs3 hmap own => ?_
    refine q3 _ H3 sc p NL M ns zs xs qs c3 _ _ _ _ _ _ _ _ _ _ rq3 sq3 Mp Np NM hN3 hM3 hxs3 hmap own nz fun H4 xs4 z wl qs4 ry4 sq4 gd => ?_
    refine q4 _ H4 sc p NL M ns xs4 z wl qs4 c3 _ _ _ _ _ _ _ _ _ _ ry4 sq4 gd hc3 fun H5 s0 a0 ry5 sq5 st5 ha => ?_
    have few := gd.few
    have bf := Bf.of ry5 sq5 st5
    have ry5' := ry5.nt
    have nm : ∀ q ∈ ((z, "code", wl ++ [(0, [])]) :: qs4 : List Pk), q.1 ∈ nm4 := gd.n4.nm
    have pos : 0 < ((z, "code", wl ++ [(0, [])]) :: qs4 : List Pk).length := by simp
    have l8 : ((z, "code", wl ++ [(0, [])]) :: qs4 : List Pk).length ≤ 4 := by simp; omega
    refine q5 _ (nt (wx [p] H5)) H5 sc p NL M s0 xs4 _ (c3 + 1) _ _ _ _ _ _ _ _ _ ry5' (fun b e => bf.dm ry5' e) fun H6 r ry6 rp gr hF6 => ?_
    refine q6 _ (nt (wx [p] H5)) [r, p] H6 sc p NL M s0 r xs4 _ (c3 + 1) _ _ _ _ _ _ _ _ ry6 (List.mem_cons_self ..) rp hF6 gd.sm gd.l4 l8 (by omega) fun H7 es o7 o8 o9 c7 ry7 hc7 F7 hg7 => ?_
    refine q7 _ (nt (wx [p] H5)) H7 sc p NL M s0 r ns a0 xs4 _ es c7 _ _ _ _ _ _ _ _ ry7 bf rp gr F7 hg7 gd.gl gd.sm gd.l4 l8 (by omega) fun H8 h d c8 ry8 hc8 hd8 => ?_
    refine q8 _ (nt (wx [p] H5)) H8 sc p NL M s0 h _ d _ _ _ _ _ _ _ _ hd8 ?_
    refine q9 _ (nt (wx [p] H5)) H8 sc p NL M s0 h ns a0 xs4 _ d c8 _ _ _ _ _ _ _ _ ry8 bf hd8 gd.gl ha (by omega) fun H9 x ry9 hd9 hi9 => ?_
    refine q10 _ (nt (wx [p] H5)) H9 sc p NL M s0 h x ns a0 xs4 _ d (c8 + 1) _ _ _ _ _ _ ry9 bf hd9 hi9 nm pos fun H10 ry10 hd10 hi10 => ?_
    refine q11 _ H10 sc x a0 _ _ _ _ _ _ _ _ _ _ _ _ _ (imgG_s wx_sub hi10) fun H11 l ys k11 nl hl => ?_
    refine q12 _ H11 sc l ys _ _ _ _ _ _ _ _ _ _ _ _ hl ?_
    have k12 : Same H10 (upd H11 l (.lst [])) := same_upd k11 nl
    generalize upd H11 l (.lst []) = H12 at k12 ⊢
    have ry12 := ry10.same k12
    have hd12 := hd10.ext (.of k12)
    have hi12 := imgG_s (wx_mono (B := [p]) k12) hi10
    refine q13 _ (nt (wx [p] H5)) H12 sc h p _ d _ _ _ _ _ _ _ _ _ _ _ _ hd12 fun H13 e13 => ?_
    obtain ⟨B, ry13, hi13⟩ : ∃ B, Ry (nt (wx [p] H5)) T' B p M NL xs4 ((z, "code", wl ++ [(0, [])]) :: qs4) (c8 + 1) H13 ∧ ImgG (wx B H13) C x ((z, "code", wl ++ [(0, [])]) :: qs4) a0 := by
      rcases e13 with rfl | ⟨ys, g, hy, rfl⟩
      · exact ⟨[p], ry12, hi12⟩
      · have a := (bf.add ry12 hy g).put (zs := []) (List.mem_cons_self ..) hd12.hp hy
        exact ⟨[h, p], a, imgG_l (wx_l a.bl) (imgG_l (ExtL.put hy) (imgG_s wx_sub hi12))⟩
    refine q14 _ (nt (wx [p] H5)) H13 B sc p NL M s0 x ns a0 xs4 _ (c8 + 1) _ _ _ _ _ _ _ _ ry13 bf hi13 nm pos gd.gl ha fun H14 ry14 hi14 => ?_
    have us14 : Us M s0 xs4 ((z, "code", wl ++ [(0, [])]) :: qs4) a0 H14 := ⟨ry14.lst, ry14.each, wx_sub _ _ (bf.kp ry14 _ _ bf.st)⟩
    have hj14 := imgG_s wx_sub hi14
    refine q15 _ H14 sc M s0 a0 xs4 _ _ _ _ _ _ _ _ _ _ _ _ us14 nm (by omega) gd.gl ha fun H15 F ys15 k15 nF hF15 oy15 ly15 => ?_
    refine q16 _ H15 sc M s0 F a0 xs4 ys15 _ _ _ _ _ _ _ _ _ _ _ (us14.same k15) nm (by omega) gd.gl hF15 oy15 ly15 fun H16 ys16 k16 hF16 oy16 ly16 => ?_
    have j16 : Same H14 H16 := fun b o e => k16 b o (ne_of_none e nF) (k15 _ _ e)
    refine q17 _ H16 sc M s0 F a0 xs4 ys16 _ _ _ _ _ _ _ _ _ _ _ (us14.same j16) (by omega) gd.gl hF16 oy16 ly16 fun H17 F17 ys17 k17 nF17 hF17 oy17 ly17 => ?_
    have j17 := j16.trans k17
    refine q18 _ H17 sc p M s0 F17 a0 xs4 ys17 z wl qs4 _ _ _ _ _ _ _ _ _ (us14.same j17) gd.gl ha hF17 oy17 ly17 fun H18 F18 ys18 k18 hF18 oy18 ly18 => ?_
    have j18 := j17.trans k18
    refine q19 _ H18 sc M s0 x F18 a0 xs4 ys18 _ _ _ _ _ _ _ _ _ _ (us14.same j18) gd.gl (imgG_s j18 hj14) hF18 oy18 ly18 fun H19 k19 => ?_
    refine q20 _ (nt (wx [p] H5)) H19 B sc p NL M s0 ns a0 xs4 z wl qs4 (c8 + 1) _ _ _ _ _ _ _ _ _ (ry14.same (j18.trans k19)) bf gd (by omega) fun H20 sq20 t20 => ?_
    exact ⟨_, _, _, _, _, _, _, _, _, _, _, _, _, rfl, sq20, t20⟩
  · rintro σ H4 ⟨o1, o2, o3, o4, o5, o6, o7, o8, o9, o10, o11, o12, o13, rfl, _, _⟩
    exact q H4
end
/-! ### the law's call, at the very caller -/
theorem law_here {P : Program} {w : World} {K : PySem.W.Frag} {mg : Str → Option Value} {base : Heap} {C CB CW CS fe f : Addr} {fd : FuncData} {T' : List (Addr × Str)} {s : Shared} {H : Hp} {a : Addr} {ns : List Int} (F : Fun K "law" "law" sLaw f fd) (L : TLw P w K mg base C CB CW CS fe T') (hr : Room 19 callerA) (e0 : Env0 P w K mg base callerA [] s H)
    (hs : SqL K H a (ns.map V.int)) (hT : LamX.Tabs T' H) : codeAny (model P w) callerA (.call (.ref f) ⟨[.ref a], []⟩) (CR (L2.CX P w) [] P w H s (fun v _ => v = .bl true) fun _ _ _ => False) s := by
  have hb := F.binds (ps := ["script"]) fun _ _ _ _ _ _ us hl => match us, hl with | [_], _ => rfl
  have KX : K.In s.heap := e0.mod.kin.keeps fun b o e => (e0.bs b o e).1
  obtain ⟨oc, od, kV, doc, pm, an, cdv, ct, osl, rfl, lk, hcd⟩ := F.ex
  refine LamX.run_ofS (k := 18) (N := NLw) (ps := ["script"]) (us := [.ref a]) (vs := [.ref a]) lk hcd scLaw hr e0 (hb s [.ref a] KX rfl) (.cons rfl .nil) rfl fun hr' => ?_
  obtain ⟨t, h1, h2⟩ := law_go (s := s) (H0 := H) (A := callerA) (outer := []) (f := f) (c := cdv) (E := fun _ _ _ => False) L hr' rfl
  exact ⟨t, h1, h2 H a ns (fun v _ => v = V.bl true) hs hT fun _ => rfl⟩
end DR

namespace DR
open PySem PySem.Spec PyProof.Rows L2
/-! ### the errors' __init__ -/
abbrev sIniB : Stmt := inClass (topS 2) 0
abbrev sIniW : Stmt := inClass (topS 3) 0
abbrev sIniS : Stmt := inClass (topS 4) 0
abbrev sIniN : Stmt := inClass (topS 5) 0
theorem scIniB : FnScope ["self", "index"] ["self", "index"] (defScope sIniB) := ⟨rfl, rfl, rfl, by decide +kernel, rfl, by decide +kernel, by decide +kernel⟩
theorem scIniW : FnScope ["self", "p", "k"] ["self", "p", "k"] (defScope sIniW) := ⟨rfl, rfl, rfl, by decide +kernel, rfl, by decide +kernel, by decide +kernel⟩
theorem scIniS : FnScope ["self", "address"] ["self", "address"] (defScope sIniS) := ⟨rfl, rfl, rfl, by decide +kernel, rfl, by decide +kernel, by decide +kernel⟩
theorem scIniN : FnScope ["self", "p", "k"] ["self", "p", "k"] (defScope sIniN) := ⟨rfl, rfl, rfl, by decide +kernel, rfl, by decide +kernel, by decide +kernel⟩
section
variable {P : Program} {w : World} {K : PySem.W.Frag} {mg : Str → Option Value} {base : Heap}
theorem ok_iniB {f C : Addr} {fd : FuncData} (F : Fun K "__init__" "BadPiece.__init__" sIniB f fd) (T : OexC K C) (no : PySem.W.findIn K (.ref C) "index" = some none) : FnOk P w K mg base CX0 1 f fd ["self", "index"] (spErrInit K C "index") := by
  refine F.ok scIniB (fun vs H Q E h => ?_) (fun cdv A outer s H vs Q E hr h => ?_)
  · obtain ⟨a, y, rfl, _⟩ := h
    rfl
  · obtain ⟨a, y, rfl, ha, q⟩ := h
    exact ⟨_, pss_one (ps_ost (pv 0) (pv 1)), _, rfl, _, rfl, a, C, rfl, T, no, .inl ⟨ha, q⟩⟩
theorem ok_iniS {f C : Addr} {fd : FuncData} (F : Fun K "__init__" "BadStart.__init__" sIniS f fd) (T : OexC K C) (no : PySem.W.findIn K (.ref C) "address" = some none) : FnOk P w K mg base CX0 1 f fd ["self", "address"] (spErrInit K C "address") := by
  refine F.ok scIniS (fun vs H Q E h => ?_) (fun cdv A outer s H vs Q E hr h => ?_)
  · obtain ⟨a, y, rfl, _⟩ := h
    rfl
  · obtain ⟨a, y, rfl, ha, q⟩ := h
    exact ⟨_, pss_one (ps_ost (pv 0) (pv 1)), _, rfl, _, rfl, a, C, rfl, T, no, .inl ⟨ha, q⟩⟩
theorem ok_iniW {f C : Addr} {fd : FuncData} (F : Fun K "__init__" "BadWord.__init__" sIniW f fd) (T : OexC K C) (no : PySem.W.findIn K (.ref C) "p" = some none) (no2 : PySem.W.findIn K (.ref C) "k" = some none) : FnOk P w K mg base CX0 1 f fd ["self", "p", "k"] (spErrInit2 K C "p" "k") := by
  refine F.ok scIniW (fun vs H Q E h => ?_) (fun cdv A outer s H vs Q E hr h => ?_)
  · obtain ⟨a, y, z, rfl, _⟩ := h
    rfl
  · obtain ⟨a, y, z, rfl, ha, q⟩ := h
    refine ⟨_, pss_one (ps_asg (pe_tup (pa_cons (pv 1) (pa_cons (pv 2) pa_nil))) (pg_tup rfl (pgs_cons (pg_ost (pv 0)) (pgs_cons (pg_ost (pv 0)) pgs_nil)))), ?_⟩
    refine ⟨_, rfl, _, rfl, (by show 2 ≤ sizeLine; decide), fun tp htp => ?_⟩
    have ha1 : upd H tp (.tup [y, z]) a = some (exo a C none) := (same_new htp) _ _ ha
    refine ⟨tp, _, rfl, SqT.of upd_same, rfl, _, _, rfl, _, rfl, a, C, rfl, T, no, .inl ⟨ha1, fun dx hdx hne => ?_⟩⟩
    refine ⟨_, _, rfl, _, rfl, a, C, rfl, T, no2, .inr ⟨dx, [("p", y)], upd_same, by rw [upd_ne hne, upd_same], (by show 1 ≤ 900; decide), rfl, q tp dx htp hdx hne⟩⟩
theorem ok_iniN {f C : Addr} {fd : FuncData} (F : Fun K "__init__" "NoWord.__init__" sIniN f fd) (T : OexC K C) (no : PySem.W.findIn K (.ref C) "p" = some none) (no2 : PySem.W.findIn K (.ref C) "k" = some none) : FnOk P w K mg base CX0 1 f fd ["self", "p", "k"] (spErrInit2 K C "p" "k") := by
  refine F.ok scIniN (fun vs H Q E h => ?_) (fun cdv A outer s H vs Q E hr h => ?_)
  · obtain ⟨a, y, z, rfl, _⟩ := h
    rfl
  · obtain ⟨a, y, z, rfl, ha, q⟩ := h
    refine ⟨_, pss_one (ps_asg (pe_tup (pa_cons (pv 1) (pa_cons (pv 2) pa_nil))) (pg_tup rfl (pgs_cons (pg_ost (pv 0)) (pgs_cons (pg_ost (pv 0)) pgs_nil)))), ?_⟩
    refine ⟨_, rfl, _, rfl, (by show 2 ≤ sizeLine; decide), fun tp htp => ?_⟩
    have ha1 : upd H tp (.tup [y, z]) a = some (exo a C none) := (same_new htp) _ _ ha
    refine ⟨tp, _, rfl, SqT.of upd_same, rfl, _, _, rfl, _, rfl, a, C, rfl, T, no, .inl ⟨ha1, fun dx hdx hne => ?_⟩⟩
    refine ⟨_, _, rfl, _, rfl, a, C, rfl, T, no2, .inr ⟨dx, [("p", y)], upd_same, by rw [upd_ne hne, upd_same], (by show 1 ≤ 900; decide), rfl, q tp dx htp hdx hne⟩⟩
end
end DR

namespace DR
open PySem PySem.Spec PyProof.Rows L2
/-! ### the head: what the top leaves -/
def dd (x : Str) (i : Nat) : He.DefD := ⟨(x, none), x, x, defArgs (topS i), defBody (topS i), defScope (topS i), [], []⟩
def fns : List He.DefD := [dd "is_integer" 8, dd "is_row" 9, dd "is_row_of" 10, dd "is_name" 11, dd "read_address" 12, dd "read_unknown" 15, dd "order_of" 16, dd "one_form" 17, dd "read_sum" 18, dd "read_piece" 20, dd "read_pieces" 21, dd "words_of" 22, dd "word_at" 23, dd "kinds_of" 24, dd "check_words" 26, dd "_law_cell" 29, dd "_law_pool" 30, dd "_law_take" 31, dd "_law_one" 32, dd "_law_mixed" 33, dd "_law_key" 34, dd "_law_total" 35, dd "_law_word" 36, dd "_law_pieces" 37, dd "_law_loose" 38, dd "_law_sum_loose" 39, dd "_law_met" 40, dd "_law_codes" 41, dd "_law_told_right" 42, dd "_law_unlike" 43, dd "_law_refused_right" 44, dd "law" 45, ⟨("Image", some "__init__"), "__init__", "Image.__init__", defArgs sImg, defBody sImg, defScope sImg, [], []⟩, ⟨("Image", some "pieces"), "pieces", "Image.pieces", defArgs sPieces, defBody sPieces, defScope sPieces, [], []⟩, ⟨("Image", some "word"), "word", "Image.word", defArgs sWordM, defBody sWordM, defScope sWordM, [], []⟩, ⟨("Image", some "__len__"), "__len__", "Image.__len__", defArgs sLen, defBody sLen, defScope sLen, [], []⟩, ⟨("Image", some "__eq__"), "__eq__", "Image.__eq__", defArgs sEq, defBody sEq, defScope sEq, [], []⟩, ⟨("BadPiece", some "__init__"), "__init__", "BadPiece.__init__", defArgs sIniB, defBody sIniB, defScope sIniB, [], []⟩, ⟨("BadWord", some "__init__"), "__init__", "BadWord.__init__", defArgs sIniW, defBody sIniW, defScope sIniW, [], []⟩, ⟨("BadStart", some "__init__"), "__init__", "BadStart.__init__", defArgs sIniS, defBody sIniS, defScope sIniS, [], []⟩, ⟨("NoWord", some "__init__"), "__init__", "NoWord.__init__", defArgs sIniN, defBody sIniN, defScope sIniN, [], []⟩]
def fas : List He.Fa := [.glo "is_integer", .glo "is_row", .glo "is_row_of", .glo "is_name", .glo "read_address", .glo "read_unknown", .glo "order_of", .glo "one_form", .glo "read_sum", .glo "read_piece", .glo "read_pieces", .glo "words_of", .glo "word_at", .glo "kinds_of", .glo "check_words", .glo "_law_cell", .glo "_law_pool", .glo "_law_take", .glo "_law_one", .glo "_law_mixed", .glo "_law_key", .glo "_law_total", .glo "_law_word", .glo "_law_pieces", .glo "_law_loose", .glo "_law_sum_loose", .glo "_law_met", .glo "_law_codes", .glo "_law_told_right", .glo "_law_unlike", .glo "_law_refused_right", .glo "law", .glo "BadPiece", .glo "BadWord", .glo "BadStart", .glo "NoWord", .glo "Image", .glo "RANKS", .free "len", .free "int", .free "str", .free "bool", .free "list", .free "tuple", .free "isinstance", .free "all", .free "sorted", .free "range", .free "enumerate", .free "zip", .free "dict", .free "min", .free "set", .free "sum", .free "any", .free "repr", .str "LETTERS" lettersS, .exm "BadPiece" "BadPiece" true, .meth "BadPiece" "__init__", .noat "BadPiece" "index", .exm "BadWord" "BadWord" true, .meth "BadWord" "__init__", .noat "BadWord" "p", .noat "BadWord" "k", .exm "BadStart" "BadStart" true, .meth "BadStart" "__init__", .noat "BadStart" "address", .exm "NoWord" "NoWord" true, .meth "NoWord" "__init__", .noat "NoWord" "p", .noat "NoWord" "k", .exm "BadWord" "BadPiece" false, .exm "BadStart" "BadPiece" false, .exm "BadStart" "BadWord" false, .exm "NoWord" "BadPiece" false, .exm "NoWord" "BadWord" false, .exm "NoWord" "BadStart" false, .meth "Image" "__init__", .meth "Image" "pieces", .meth "Image" "word", .meth "Image" "__len__", .meth "Image" "__eq__", .noat "Image" "parts", .noat "Image" "sums", .noat "Image" "first", .cls "Image", .mkr "Image"]
def tabs : List He.Tab := [(fun K => He.ga K "RANKS", ["piece", "name", "in"])]
def tfs : List He.Defn := [("_law_told_right", none), ("_law_refused_right", none)]
/-- an own error class over ValueError -/
def oexB (K : PySem.W.Frag) (C : Addr) : Bool := (match K.lookup C with
  | some ⟨.type c, _, .cls z, sl⟩ => decide (c = "type") && (match z.mro, sl.toList with
    | .ref C1 :: m1, [_, _, _, _, some (.builtin b1), _] => decide (C1 = C) && (decide (b1 = "ValueError.__new__") && (!z.hasDel && (z.hasDict && PySem.HandSPX.refsVE m1)))
    | _, _ => false)
  | _ => false) && (He.eqO (PySem.W.findIn K (.ref C) "__setattr__") (some (some (.builtin "object.__setattr__"))) && (decide (PySem.W.subIn K (.ref C) (.type "BaseException") = some true) && (decide (PySem.W.typeIn K (.ref C) = some (.type "type")) && PySem.W.keepIn K (.ref C))))
def imqB (K : PySem.W.Frag) (C : Addr) : Bool := He.eqO (PySem.W.findIn K (.ref C) "__class__") (some (some (.builtin "object.__class__"))) && (He.eqO (PySem.W.specialIn K (.builtin "object.__class__") "__get__") (some (some (.builtin "getset_descriptor.__get__"))) && (decide (PySem.W.takesIn K (.builtin "object.__class__") = some true) && (decide (PySem.W.mroIn K C (.type "object") = some true) && (decide (PySem.W.kitOne K (.ref C) (.ref C) = some true) && (tyNs.all (fun n => decide (PySem.W.kitOne K (.type n) (.ref C) = some false)) && (tyNs.all (fun n => PySem.W.notFirst K C (.type n)) && He.eqO (PySem.W.findIn K (.ref C) "__ne__") (some (some (.builtin "object.__ne__")))))))))
def ranksL : List (Str × He.Dv) := [("piece", .int 0), ("name", .int 1), ("in", .int 2)]
def exs (K : PySem.W.Frag) : Bool := oexB K (He.ga K "BadPiece") && (xfB K (He.ga K "BadPiece") && (oexB K (He.ga K "BadWord") && (xfB K (He.ga K "BadWord") && (oexB K (He.ga K "BadStart") && (xfB K (He.ga K "BadStart") && (oexB K (He.ga K "NoWord") && (xfB K (He.ga K "NoWord") && (He.valsB K (He.ga K "RANKS") ranksL && (imqB K (He.ga K "Image") && (decide ((He.cT K ("_law_told_right", none)).2 ≠ (He.cT K ("_law_refused_right", none)).2)))))))))))
abbrev RR : PySem.W.OpenRow := PySem.W.OpenLaw.row PySem.Challenge.rw_loadanywhere_k03_images_made
abbrev hkk : PySem.W.Hook := He.hookX 5 fas fns tabs tfs exs
def obb (s : PySem.W.SharedT) : He.AlX := He.obsX 5 fas fns tabs tfs exs (HandSHeadRun.getT s)
theorem obb_eq (s : PySem.W.SharedT) : obb s = hkk.obs s.abs := He.obsX_eq (HandSHeadRun.getT_eq s)
abbrev loosL : List Str := (["WordError", "BadPiece", "BadWord", "BadStart", "NoWord", "LETTERS", "is_integer", "is_row", "is_row_of", "is_name", "read_address", "RANKS", "read_unknown", "order_of", "one_form", "read_sum", "read_piece", "read_pieces", "words_of", "word_at", "kinds_of", "check_words", "Image", "_law_cell", "_law_pool", "_law_take", "_law_one", "_law_mixed", "_law_key", "_law_total"] : List Str) ++ (["_law_word", "_law_pieces", "_law_loose", "_law_sum_loose", "_law_met", "_law_codes", "_law_told_right", "_law_unlike", "_law_refused_right"] : List Str)
theorem run_false (w : World) : HandSHeadRun.RunEq RR (PySem.W.view RR.prog [45]) hkk obb 6000 loosL (w.withFollow "special-get-raises" false) := by
  intro os
  kernel_rfl
theorem run_true (w : World) : HandSHeadRun.RunEq RR (PySem.W.view RR.prog [45]) hkk obb 6000 loosL (w.withFollow "special-get-raises" true) := by
  intro os
  kernel_rfl
theorem runL (w : World) : HandSHeadRun.RunEq RR (PySem.W.view RR.prog [45]) hkk obb 6000 loosL w :=
  PySem.W.byRow2 "special-get-raises" (P := fun w => HandSHeadRun.RunEq RR (PySem.W.view RR.prog [45]) hkk obb 6000 loosL w) run_false run_true w
end DR

namespace DR
open PySem PySem.Spec PyProof.Rows L2
/-! ### the facts -/
theorem bb {a b : Bool} (h : (a && b) = true) : a = true ∧ b = true := by simpa using h
theorem oexB_ok {K : PySem.W.Frag} {C : Addr} (h : oexB K C = true) : OexC K C := by
  unfold oexB at h
  obtain ⟨h1, h⟩ := bb h
  obtain ⟨h2, h⟩ := bb h
  obtain ⟨h3, h⟩ := bb h
  obtain ⟨h4, h5⟩ := bb h
  refine ⟨?_, He.eqO_ok h2, of_decide_eq_true h3, of_decide_eq_true h4, h5⟩
  split at h1
  · rename_i cn od z sl hl
    obtain ⟨h6, h7⟩ := bb h1
    obtain rfl := of_decide_eq_true h6
    split at h7
    · rename_i C1 m1 k0 k1 k2 k3 b1 k5 hm hs
      obtain ⟨h8, h7⟩ := bb h7
      obtain ⟨h9, h7⟩ := bb h7
      obtain ⟨ha, h7⟩ := bb h7
      obtain ⟨hb, hc⟩ := bb h7
      obtain rfl := of_decide_eq_true h8
      obtain rfl := of_decide_eq_true h9
      obtain ⟨z1, z2, z3, z4, z5, z6, z7, z8, z9, za, zb⟩ := z
      dsimp only at hm ha hb
      subst hm
      have ha2 : zb = false := by simpa using ha
      subst ha2
      subst hb
      have hsl : sl = #[k0, k1, k2, k3, some (.builtin "ValueError.__new__"), k5] := by
        obtain ⟨l⟩ := sl
        simp only at hs
        rw [hs]
      rw [hsl] at hl
      exact ⟨_, _, _, _, _, _, _, _, _, _, _, _, _, _, _, hl, hc⟩
    · cases h7
  · cases h1
theorem fun_of {K : PySem.W.Frag} {x q : Str} {st : Stmt} {f : Addr} {fd : FuncData} (F : FunD K x q (defArgs st) (defBody st) (defScope st) [] [] f fd) : Fun K x q st f fd := by
  obtain ⟨oc, od, dV, kV, doc, pm, an, cdv, ct, osl, e, lk, hc, hD, hK⟩ := F.ex
  rcases hD with ⟨_, rfl⟩ | ⟨z, _⟩
  · exact ⟨⟨oc, od, kV, doc, pm, an, cdv, ct, osl, e, lk, hc⟩, F.kp⟩
  · exact absurd rfl z
theorem funM_of {K : PySem.W.Frag} {x q : Str} {st : Stmt} {p : Str × Option Str} {fd : FuncData} (F : FunD K x q (defArgs st) (defBody st) (defScope st) [] [] (He.fAd K p) fd) : FunM K x q st (He.cT K p).1 (He.fAd K p) fd := by
  obtain ⟨oc, od, dV, kV, doc, pm, an, cdv, ct, osl, e, lk, hc, hD, hK⟩ := F.ex
  rcases hD with ⟨_, rfl⟩ | ⟨z, _⟩
  · obtain ⟨c, rfl⟩ := He.codeIn_ref hc
    have ec : (He.cT K p).1 = c := He.codeOf_eq lk (by rw [e])
    rw [ec]
    exact ⟨⟨oc, od, kV, doc, pm, an, ct, osl, e, lk, hc⟩, F.kp⟩
  · exact absurd rfl z
theorem has_of {P : Program} {w : World} {K : PySem.W.Frag} {mg : Str → Option Value} {base : Heap} {CX : CXT} {k : Nat} {x : Str} {ps : List Str} {sp : Sp} {f : Addr} {fd : FuncData} (g : mg x = some (.ref f)) (kp : PySem.W.keepIn K (.ref f) = true) (b : Binds K fd ps []) (o : FnOk P w K mg base CX k f fd ps sp) : Has P w K mg base CX k x ps sp :=
  ⟨⟨f, fd, g, kp, b, o⟩⟩
theorem keys_find {P : Params} {z : Str} : ∀ {l : List DictEntry} {ks : List Str}, l.map He.keyOf = He.keysIn P ks → z ∉ ks → l.find? (·.key.isStr z) = none ∧ l.any (·.refKey) = false
  | [], _, _, _ => ⟨rfl, rfl⟩
  | e :: r, [], h, _ => by cases h
  | e :: r, k :: ks, h, hz => by
    have h1 : He.keyOf e :: r.map He.keyOf = some (k, PyData.keyHash P k) :: He.keysIn P ks := h
    injection h1 with h2 h3
    obtain ⟨i1, i2⟩ := keys_find h3 (fun m => hz (List.mem_cons_of_mem _ m))
    obtain ⟨eh, ek, ev⟩ := e
    unfold He.keyOf at h2
    dsimp only at h2
    cases ek with
    | str x t =>
      have h4 : (x, eh) = (k, PyData.keyHash P k) := Option.some.inj h2
      have h5 : x = k := congrArg Prod.fst h4
      subst h5
      have nz : (x == z) = false := by
        rw [beq_eq_false_iff_ne]
        intro q
        exact hz (by rw [← q]; exact List.mem_cons_self ..)
      constructor
      · rw [List.find?_cons]
        have e1 : Value.isStr (.str x t) z = false := nz
        show (match Value.isStr (.str x t) z with | true => some _ | false => r.find? _) = none
        rw [e1]
        exact i1
      · rw [List.any_cons, i2]
        rfl
    | _ => cases h2
theorem ns_no {K : PySem.W.Frag} {w : World} {a : Addr} {ks : List Str} (h : He.dicW K a = some (He.keysIn w.params ks)) {z : Str} (hz : z ∉ ks) : PySem.W.nsIn K a z = some none := by
  unfold He.dicW at h
  cases q : K.lookup a with
  | none => rw [q] at h; cases h
  | some o =>
    obtain ⟨oc, od, dt, osl⟩ := o
    rw [q] at h
    cases oc with
    | type c =>
      cases od with
      | none =>
        cases dt with
        | dict es n =>
          have h1 : (match decide (c = "dict") && (osl.isEmpty && !(a == sysModules)) with
            | true => some (es.toList.map He.keyOf)
            | false => none) = some (He.keysIn w.params ks) := h
          split at h1
          · obtain ⟨f1, f2⟩ := keys_find (Option.some.inj h1) hz
            unfold PySem.W.nsIn
            rw [q]
            dsimp only
            rw [f1, f2]
            rfl
          · cases h1
        | _ => cases h
      | some b => cases dt <;> cases h
    | _ => cases od <;> cases dt <;> cases h
theorem rank_some {z : Str} {i : Int} (h : rank z = some i) : (z, He.Dv.int i) ∈ ranksL := by
  unfold rank at h
  split at h
  · rename_i e; cases h; rw [e]; exact List.mem_cons_self ..
  · split at h
    · rename_i e; cases h; rw [e]; exact List.mem_cons_of_mem _ (List.mem_cons_self ..)
    · split at h
      · rename_i e; cases h; rw [e]; exact List.mem_cons_of_mem _ (List.mem_cons_of_mem _ (List.mem_cons_self ..))
      · cases h
theorem rank_none {z : Str} (h : rank z = none) : z ∉ (["piece", "name", "in"] : List Str) := by
  unfold rank at h
  split at h
  · cases h
  · split at h
    · cases h
    · split at h
      · cases h
      · rename_i a b c
        intro m
        rcases List.mem_cons.mp m with m | m
        · exact a m
        · rcases List.mem_cons.mp m with m | m
          · exact b m
          · exact c (List.mem_singleton.mp m)
section
variable {w : World} {K : PySem.W.Frag} {mg : Str → Option Value} {h : Heap}
theorem imqB_ok {C fe : Addr} (h : imqB K C = true) (e : PySem.W.findIn K (.ref C) "__eq__" = some (some (.ref fe))) (n : PySem.W.isFn K (.ref fe) = true) : ImQ K C fe := by
  unfold imqB at h
  obtain ⟨h1, h⟩ := bb h
  obtain ⟨h2, h⟩ := bb h
  obtain ⟨h3, h⟩ := bb h
  obtain ⟨h4, h⟩ := bb h
  obtain ⟨h5, h⟩ := bb h
  obtain ⟨h6, h⟩ := bb h
  obtain ⟨h7, h8⟩ := bb h
  exact ⟨He.eqO_ok h1, He.eqO_ok h2, of_decide_eq_true h3, of_decide_eq_true h4, of_decide_eq_true h5, fun n hn => of_decide_eq_true (List.all_eq_true.mp h6 n hn), fun n hn => List.all_eq_true.mp h7 n hn, He.eqO_ok h8, e, n⟩
theorem dics_of (c : He.SaysX fas fns tabs tfs exs w h K) : He.dicW K (He.ga K "RANKS") = some (He.keysIn w.params ["piece", "name", "in"]) := by
  have e : tabs.map (fun t => He.dicW K (t.1 K)) = tabs.map fun t => some (He.keysIn w.params t.2) := congrArg (fun z : He.AlT => z.2) c.t
  have z : [He.dicW K (He.ga K "RANKS")] = [some (He.keysIn w.params ["piece", "name", "in"])] := e
  injection z with z1 z
theorem ranks_of (X : K.In h) (G : h.Ns mainGlobals mg) (c : He.SaysX fas fns tabs tfs exs w h K) (v : He.valsB K (He.ga K "RANKS") ranksL = true) : Ranks K w mg (He.ga K "RANKS") := by
  have e2 := dics_of c
  refine ⟨He.glo_ok X G (c.t.d.fact 37 (f := .glo "RANKS") rfl), He.dicW_ok e2, fun z i hz => ?_, fun z hz => ns_no e2 (rank_none hz)⟩
  obtain ⟨u, h1, h2⟩ := He.valsB_ok v (rank_some hz)
  obtain ⟨t, rfl⟩ := (show ∃ t, u = Value.int i t from h2)
  exact ⟨t, h1⟩
theorem bi_of (X : K.In h) (G : h.Ns mainGlobals mg) (c : He.SaysD fas fns K) : Bi mg :=
  ⟨He.free_ok X G (c.fact 38 (f := .free "len") rfl), He.free_ok X G (c.fact 39 (f := .free "int") rfl), He.free_ok X G (c.fact 40 (f := .free "str") rfl), He.free_ok X G (c.fact 41 (f := .free "bool") rfl), He.free_ok X G (c.fact 42 (f := .free "list") rfl), He.free_ok X G (c.fact 43 (f := .free "tuple") rfl), He.free_ok X G (c.fact 44 (f := .free "isinstance") rfl), He.free_ok X G (c.fact 45 (f := .free "all") rfl), He.free_ok X G (c.fact 46 (f := .free "sorted") rfl), He.free_ok X G (c.fact 47 (f := .free "range") rfl), He.free_ok X G (c.fact 48 (f := .free "enumerate") rfl), He.free_ok X G (c.fact 49 (f := .free "zip") rfl), He.free_ok X G (c.fact 50 (f := .free "dict") rfl), He.free_ok X G (c.fact 51 (f := .free "min") rfl), He.free_ok X G (c.fact 52 (f := .free "set") rfl)⟩
end
abbrev cA (K : PySem.W.Frag) : Addr × Addr := He.cT K ("_law_told_right", none)
abbrev cW (K : PySem.W.Frag) : Addr × Addr := He.cT K ("_law_refused_right", none)
abbrev TBs (K : PySem.W.Frag) : List (Addr × Str) := [((cA K).2, qTold), ((cW K).2, qRef)]
theorem huA {K : PySem.W.Frag} (ne : (cA K).2 ≠ (cW K).2) : ∀ p ∈ TBs K, p.1 = (cA K).2 → p.2 = qTold := fun p hp e => by
  rcases List.mem_cons.mp hp with rfl | hp
  · rfl
  · obtain rfl := List.mem_singleton.mp hp
    exact absurd e.symm ne
theorem huW {K : PySem.W.Frag} (ne : (cA K).2 ≠ (cW K).2) : ∀ p ∈ TBs K, p.1 = (cW K).2 → p.2 = qRef := fun p hp e => by
  rcases List.mem_cons.mp hp with rfl | hp
  · exact absurd e ne
  · obtain rfl := List.mem_singleton.mp hp
    rfl
theorem facts {P : Program} {w : World} {K : PySem.W.Frag} {mg : Str → Option Value} {h : Heap} (X : K.In h) (G : h.Ns mainGlobals mg) (c : He.SaysX fas fns tabs tfs exs w h K) :
    ∃ fd : FuncData, Fun K "law" "law" sLaw (He.ga K "law") fd ∧ ∀ base : Heap, K.In base → base.Ns mainGlobals mg → LamX.TabB base mg (cA K).1 (cA K).2 → LamX.TabB base mg (cW K).1 (cW K).2 →
      TLw P w K mg base (He.ga K "Image") (He.ga K "BadPiece") (He.ga K "BadWord") (He.ga K "BadStart") (He.ma K (He.ga K "Image") "__eq__") (TBs K) := by
  obtain ⟨x1, hx⟩ := bb c.more
  obtain ⟨x2, hx⟩ := bb hx
  obtain ⟨x3, hx⟩ := bb hx
  obtain ⟨x4, hx⟩ := bb hx
  obtain ⟨x5, hx⟩ := bb hx
  obtain ⟨x6, hx⟩ := bb hx
  obtain ⟨x7, hx⟩ := bb hx
  obtain ⟨x8, hx⟩ := bb hx
  obtain ⟨x9, hx⟩ := bb hx
  obtain ⟨x10, x11⟩ := bb hx
  have T := bi_of X G c.t.d
  have R := ranks_of X G c x9
  have NE : (cA K).2 ≠ (cW K).2 := of_decide_eq_true x11
  obtain ⟨tLet, gLet⟩ := He.str_ok X G (c.t.d.fact 56 (f := .str "LETTERS" lettersS) rfl)
  have TRep : mg "repr" = none := He.free_ok X G (c.t.d.fact 55 (f := .free "repr") rfl)
  have TS : mg "sum" = none := He.free_ok X G (c.t.d.fact 53 (f := .free "sum") rfl)
  have TA : mg "any" = none := He.free_ok X G (c.t.d.fact 54 (f := .free "any") rfl)
  have gB : mg "BadPiece" = some (.ref (He.ga K "BadPiece")) := He.glo_ok X G (c.t.d.fact 32 (f := .glo "BadPiece") rfl)
  have gW : mg "BadWord" = some (.ref (He.ga K "BadWord")) := He.glo_ok X G (c.t.d.fact 33 (f := .glo "BadWord") rfl)
  have gS : mg "BadStart" = some (.ref (He.ga K "BadStart")) := He.glo_ok X G (c.t.d.fact 34 (f := .glo "BadStart") rfl)
  have gN : mg "NoWord" = some (.ref (He.ga K "NoWord")) := He.glo_ok X G (c.t.d.fact 35 (f := .glo "NoWord") rfl)
  have gI : mg "Image" = some (.ref (He.ga K "Image")) := He.glo_ok X G (c.t.d.fact 36 (f := .glo "Image") rfl)
  have eB := He.exm_ok (c.t.d.fact 57 (f := .exm "BadPiece" "BadPiece" true) rfl)
  have mB := He.meth_ok (c.t.d.fact 58 (f := .meth "BadPiece" "__init__") rfl)
  have nBindex := He.noat_ok (c.t.d.fact 59 (f := .noat "BadPiece" "index") rfl)
  have OB := oexB_ok x1
  have XB := xfB_ok x2
  have eW := He.exm_ok (c.t.d.fact 60 (f := .exm "BadWord" "BadWord" true) rfl)
  have mW := He.meth_ok (c.t.d.fact 61 (f := .meth "BadWord" "__init__") rfl)
  have nWp := He.noat_ok (c.t.d.fact 62 (f := .noat "BadWord" "p") rfl)
  have nWk := He.noat_ok (c.t.d.fact 63 (f := .noat "BadWord" "k") rfl)
  have OW := oexB_ok x3
  have XW := xfB_ok x4
  have eS := He.exm_ok (c.t.d.fact 64 (f := .exm "BadStart" "BadStart" true) rfl)
  have mS := He.meth_ok (c.t.d.fact 65 (f := .meth "BadStart" "__init__") rfl)
  have nSaddress := He.noat_ok (c.t.d.fact 66 (f := .noat "BadStart" "address") rfl)
  have OS := oexB_ok x5
  have XS := xfB_ok x6
  have eN := He.exm_ok (c.t.d.fact 67 (f := .exm "NoWord" "NoWord" true) rfl)
  have mN := He.meth_ok (c.t.d.fact 68 (f := .meth "NoWord" "__init__") rfl)
  have nNp := He.noat_ok (c.t.d.fact 69 (f := .noat "NoWord" "p") rfl)
  have nNk := He.noat_ok (c.t.d.fact 70 (f := .noat "NoWord" "k") rfl)
  have ON := oexB_ok x7
  have XN := xfB_ok x8
  have oWB := He.exm_ok (c.t.d.fact 71 (f := .exm "BadWord" "BadPiece" false) rfl)
  have oSB := He.exm_ok (c.t.d.fact 72 (f := .exm "BadStart" "BadPiece" false) rfl)
  have oSW := He.exm_ok (c.t.d.fact 73 (f := .exm "BadStart" "BadWord" false) rfl)
  have oNB := He.exm_ok (c.t.d.fact 74 (f := .exm "NoWord" "BadPiece" false) rfl)
  have oNW := He.exm_ok (c.t.d.fact 75 (f := .exm "NoWord" "BadWord" false) rfl)
  have oNS := He.exm_ok (c.t.d.fact 76 (f := .exm "NoWord" "BadStart" false) rfl)
  have CD := He.cls_ok (c.t.d.fact 85 (f := .cls "Image") rfl)
  have KD := He.mkr_ok (c.t.d.fact 86 (f := .mkr "Image") rfl)
  have B : ImC K (He.ga K "Image") := ⟨CD, He.noat_ok (c.t.d.fact 82 (f := .noat "Image" "parts") rfl), He.noat_ok (c.t.d.fact 83 (f := .noat "Image" "sums") rfl), He.noat_ok (c.t.d.fact 84 (f := .noat "Image" "first") rfl)⟩
  obtain ⟨d0, D0⟩ := c.t.d.def_ 0 (d := dd "is_integer" 8) rfl
  have F0 : Fun K "is_integer" "is_integer" sIsInt (He.ga K "is_integer") d0 := fun_of D0
  have g0 : mg "is_integer" = some (.ref (He.ga K "is_integer")) := He.glo_ok X G (c.t.d.fact 0 (f := .glo "is_integer") rfl)
  have b0 : Binds K d0 ["thing"] [] := F0.binds fun _ _ _ _ _ _ us hl => match us, hl with | [_], _ => rfl
  obtain ⟨d1, D1⟩ := c.t.d.def_ 1 (d := dd "is_row" 9) rfl
  have F1 : Fun K "is_row" "is_row" sIsRow (He.ga K "is_row") d1 := fun_of D1
  have g1 : mg "is_row" = some (.ref (He.ga K "is_row")) := He.glo_ok X G (c.t.d.fact 1 (f := .glo "is_row") rfl)
  have b1 : Binds K d1 ["thing"] [] := F1.binds fun _ _ _ _ _ _ us hl => match us, hl with | [_], _ => rfl
  obtain ⟨d2, D2⟩ := c.t.d.def_ 2 (d := dd "is_row_of" 10) rfl
  have F2 : Fun K "is_row_of" "is_row_of" sIsRowOf (He.ga K "is_row_of") d2 := fun_of D2
  have g2 : mg "is_row_of" = some (.ref (He.ga K "is_row_of")) := He.glo_ok X G (c.t.d.fact 2 (f := .glo "is_row_of") rfl)
  have b2 : Binds K d2 ["thing", "many"] [] := F2.binds fun _ _ _ _ _ _ us hl => match us, hl with | [_, _], _ => rfl
  obtain ⟨d3, D3⟩ := c.t.d.def_ 3 (d := dd "is_name" 11) rfl
  have F3 : Fun K "is_name" "is_name" sIsName (He.ga K "is_name") d3 := fun_of D3
  have g3 : mg "is_name" = some (.ref (He.ga K "is_name")) := He.glo_ok X G (c.t.d.fact 3 (f := .glo "is_name") rfl)
  have b3 : Binds K d3 ["thing"] [] := F3.binds fun _ _ _ _ _ _ us hl => match us, hl with | [_], _ => rfl
  obtain ⟨d4, D4⟩ := c.t.d.def_ 4 (d := dd "read_address" 12) rfl
  have F4 : Fun K "read_address" "read_address" sReadAddr (He.ga K "read_address") d4 := fun_of D4
  have g4 : mg "read_address" = some (.ref (He.ga K "read_address")) := He.glo_ok X G (c.t.d.fact 4 (f := .glo "read_address") rfl)
  have b4 : Binds K d4 ["thing"] [] := F4.binds fun _ _ _ _ _ _ us hl => match us, hl with | [_], _ => rfl
  obtain ⟨d5, D5⟩ := c.t.d.def_ 5 (d := dd "read_unknown" 15) rfl
  have F5 : Fun K "read_unknown" "read_unknown" sReadUnk (He.ga K "read_unknown") d5 := fun_of D5
  have g5 : mg "read_unknown" = some (.ref (He.ga K "read_unknown")) := He.glo_ok X G (c.t.d.fact 5 (f := .glo "read_unknown") rfl)
  have b5 : Binds K d5 ["thing"] [] := F5.binds fun _ _ _ _ _ _ us hl => match us, hl with | [_], _ => rfl
  obtain ⟨d6, D6⟩ := c.t.d.def_ 6 (d := dd "order_of" 16) rfl
  have F6 : Fun K "order_of" "order_of" sOrderOf (He.ga K "order_of") d6 := fun_of D6
  have g6 : mg "order_of" = some (.ref (He.ga K "order_of")) := He.glo_ok X G (c.t.d.fact 6 (f := .glo "order_of") rfl)
  have b6 : Binds K d6 ["unknown"] [] := F6.binds fun _ _ _ _ _ _ us hl => match us, hl with | [_], _ => rfl
  obtain ⟨d7, D7⟩ := c.t.d.def_ 7 (d := dd "one_form" 17) rfl
  have F7 : Fun K "one_form" "one_form" sOneForm (He.ga K "one_form") d7 := fun_of D7
  have g7 : mg "one_form" = some (.ref (He.ga K "one_form")) := He.glo_ok X G (c.t.d.fact 7 (f := .glo "one_form") rfl)
  have b7 : Binds K d7 ["number", "multiples"] [] := F7.binds fun _ _ _ _ _ _ us hl => match us, hl with | [_, _], _ => rfl
  obtain ⟨d8, D8⟩ := c.t.d.def_ 8 (d := dd "read_sum" 18) rfl
  have F8 : Fun K "read_sum" "read_sum" sReadSum (He.ga K "read_sum") d8 := fun_of D8
  have g8 : mg "read_sum" = some (.ref (He.ga K "read_sum")) := He.glo_ok X G (c.t.d.fact 8 (f := .glo "read_sum") rfl)
  have b8 : Binds K d8 ["thing"] [] := F8.binds fun _ _ _ _ _ _ us hl => match us, hl with | [_], _ => rfl
  obtain ⟨d9, D9⟩ := c.t.d.def_ 9 (d := dd "read_piece" 20) rfl
  have F9 : Fun K "read_piece" "read_piece" sReadPc (He.ga K "read_piece") d9 := fun_of D9
  have g9 : mg "read_piece" = some (.ref (He.ga K "read_piece")) := He.glo_ok X G (c.t.d.fact 9 (f := .glo "read_piece") rfl)
  have b9 : Binds K d9 ["thing"] [] := F9.binds fun _ _ _ _ _ _ us hl => match us, hl with | [_], _ => rfl
  obtain ⟨d10, D10⟩ := c.t.d.def_ 10 (d := dd "read_pieces" 21) rfl
  have F10 : Fun K "read_pieces" "read_pieces" sReadPcs (He.ga K "read_pieces") d10 := fun_of D10
  have g10 : mg "read_pieces" = some (.ref (He.ga K "read_pieces")) := He.glo_ok X G (c.t.d.fact 10 (f := .glo "read_pieces") rfl)
  have b10 : Binds K d10 ["pieces"] [] := F10.binds fun _ _ _ _ _ _ us hl => match us, hl with | [_], _ => rfl
  obtain ⟨d11, D11⟩ := c.t.d.def_ 11 (d := dd "words_of" 22) rfl
  have F11 : Fun K "words_of" "words_of" sWords (He.ga K "words_of") d11 := fun_of D11
  have g11 : mg "words_of" = some (.ref (He.ga K "words_of")) := He.glo_ok X G (c.t.d.fact 11 (f := .glo "words_of") rfl)
  have b11 : Binds K d11 ["pieces"] [] := F11.binds fun _ _ _ _ _ _ us hl => match us, hl with | [_], _ => rfl
  obtain ⟨d12, D12⟩ := c.t.d.def_ 12 (d := dd "word_at" 23) rfl
  have F12 : Fun K "word_at" "word_at" sWordAt (He.ga K "word_at") d12 := fun_of D12
  have g12 : mg "word_at" = some (.ref (He.ga K "word_at")) := He.glo_ok X G (c.t.d.fact 12 (f := .glo "word_at") rfl)
  have b12 : Binds K d12 ["sums", "p", "k"] [] := F12.binds fun _ _ _ _ _ _ us hl => match us, hl with | [_, _, _], _ => rfl
  obtain ⟨d13, D13⟩ := c.t.d.def_ 13 (d := dd "kinds_of" 24) rfl
  have F13 : Fun K "kinds_of" "kinds_of" sKinds (He.ga K "kinds_of") d13 := fun_of D13
  have g13 : mg "kinds_of" = some (.ref (He.ga K "kinds_of")) := He.glo_ok X G (c.t.d.fact 13 (f := .glo "kinds_of") rfl)
  have b13 : Binds K d13 ["pieces"] [] := F13.binds fun _ _ _ _ _ _ us hl => match us, hl with | [_], _ => rfl
  obtain ⟨d14, D14⟩ := c.t.d.def_ 14 (d := dd "check_words" 26) rfl
  have F14 : Fun K "check_words" "check_words" sCheckW (He.ga K "check_words") d14 := fun_of D14
  have g14 : mg "check_words" = some (.ref (He.ga K "check_words")) := He.glo_ok X G (c.t.d.fact 14 (f := .glo "check_words") rfl)
  have b14 : Binds K d14 ["sums", "kinds"] [] := F14.binds fun _ _ _ _ _ _ us hl => match us, hl with | [_, _], _ => rfl
  obtain ⟨d15, D15⟩ := c.t.d.def_ 15 (d := dd "_law_cell" 29) rfl
  have F15 : Fun K "_law_cell" "_law_cell" sCell (He.ga K "_law_cell") d15 := fun_of D15
  have g15 : mg "_law_cell" = some (.ref (He.ga K "_law_cell")) := He.glo_ok X G (c.t.d.fact 15 (f := .glo "_law_cell") rfl)
  have b15 : Binds K d15 ["script", "k"] [] := F15.binds fun _ _ _ _ _ _ us hl => match us, hl with | [_, _], _ => rfl
  obtain ⟨d16, D16⟩ := c.t.d.def_ 16 (d := dd "_law_pool" 30) rfl
  have F16 : Fun K "_law_pool" "_law_pool" sPool (He.ga K "_law_pool") d16 := fun_of D16
  have g16 : mg "_law_pool" = some (.ref (He.ga K "_law_pool")) := He.glo_ok X G (c.t.d.fact 16 (f := .glo "_law_pool") rfl)
  have b16 : Binds K d16 ["cell"] [] := F16.binds fun _ _ _ _ _ _ us hl => match us, hl with | [_], _ => rfl
  obtain ⟨d17, D17⟩ := c.t.d.def_ 17 (d := dd "_law_take" 31) rfl
  have F17 : Fun K "_law_take" "_law_take" sTake (He.ga K "_law_take") d17 := fun_of D17
  have g17 : mg "_law_take" = some (.ref (He.ga K "_law_take")) := He.glo_ok X G (c.t.d.fact 17 (f := .glo "_law_take") rfl)
  have b17 : Binds K d17 ["pool", "many"] [] := F17.binds fun _ _ _ _ _ _ us hl => match us, hl with | [_, _], _ => rfl
  obtain ⟨d18, D18⟩ := c.t.d.def_ 18 (d := dd "_law_one" 32) rfl
  have F18 : Fun K "_law_one" "_law_one" sOne (He.ga K "_law_one") d18 := fun_of D18
  have g18 : mg "_law_one" = some (.ref (He.ga K "_law_one")) := He.glo_ok X G (c.t.d.fact 18 (f := .glo "_law_one") rfl)
  have b18 : Binds K d18 ["pool", "things"] [] := F18.binds fun _ _ _ _ _ _ us hl => match us, hl with | [_, _], _ => rfl
  obtain ⟨d19, D19⟩ := c.t.d.def_ 19 (d := dd "_law_mixed" 33) rfl
  have F19 : Fun K "_law_mixed" "_law_mixed" sMixed (He.ga K "_law_mixed") d19 := fun_of D19
  have g19 : mg "_law_mixed" = some (.ref (He.ga K "_law_mixed")) := He.glo_ok X G (c.t.d.fact 19 (f := .glo "_law_mixed") rfl)
  have b19 : Binds K d19 ["pool", "things"] [] := F19.binds fun _ _ _ _ _ _ us hl => match us, hl with | [_, _], _ => rfl
  obtain ⟨d20, D20⟩ := c.t.d.def_ 20 (d := dd "_law_key" 34) rfl
  have F20 : Fun K "_law_key" "_law_key" sLKey (He.ga K "_law_key") d20 := fun_of D20
  have g20 : mg "_law_key" = some (.ref (He.ga K "_law_key")) := He.glo_ok X G (c.t.d.fact 20 (f := .glo "_law_key") rfl)
  have b20 : Binds K d20 ["unknown"] [] := F20.binds fun _ _ _ _ _ _ us hl => match us, hl with | [_], _ => rfl
  obtain ⟨d21, D21⟩ := c.t.d.def_ 21 (d := dd "_law_total" 35) rfl
  have F21 : Fun K "_law_total" "_law_total" sTotal (He.ga K "_law_total") d21 := fun_of D21
  have g21 : mg "_law_total" = some (.ref (He.ga K "_law_total")) := He.glo_ok X G (c.t.d.fact 21 (f := .glo "_law_total") rfl)
  have b21 : Binds K d21 ["number", "pairs"] [] := F21.binds fun _ _ _ _ _ _ us hl => match us, hl with | [_, _], _ => rfl
  obtain ⟨d22, D22⟩ := c.t.d.def_ 22 (d := dd "_law_word" 36) rfl
  have F22 : Fun K "_law_word" "_law_word" sLWord (He.ga K "_law_word") d22 := fun_of D22
  have g22 : mg "_law_word" = some (.ref (He.ga K "_law_word")) := He.glo_ok X G (c.t.d.fact 22 (f := .glo "_law_word") rfl)
  have b22 : Binds K d22 ["pool", "names"] [] := F22.binds fun _ _ _ _ _ _ us hl => match us, hl with | [_, _], _ => rfl
  obtain ⟨d23, D23⟩ := c.t.d.def_ 23 (d := dd "_law_pieces" 37) rfl
  have F23 : Fun K "_law_pieces" "_law_pieces" sLPieces (He.ga K "_law_pieces") d23 := fun_of D23
  have g23 : mg "_law_pieces" = some (.ref (He.ga K "_law_pieces")) := He.glo_ok X G (c.t.d.fact 23 (f := .glo "_law_pieces") rfl)
  have b23 : Binds K d23 ["pool", "names"] [] := F23.binds fun _ _ _ _ _ _ us hl => match us, hl with | [_, _], _ => rfl
  obtain ⟨d24, D24⟩ := c.t.d.def_ 24 (d := dd "_law_loose" 38) rfl
  have F24 : Fun K "_law_loose" "_law_loose" sLoo (He.ga K "_law_loose") d24 := fun_of D24
  have g24 : mg "_law_loose" = some (.ref (He.ga K "_law_loose")) := He.glo_ok X G (c.t.d.fact 24 (f := .glo "_law_loose") rfl)
  have b24 : Binds K d24 ["pool", "thing"] [] := F24.binds fun _ _ _ _ _ _ us hl => match us, hl with | [_, _], _ => rfl
  obtain ⟨d25, D25⟩ := c.t.d.def_ 25 (d := dd "_law_sum_loose" 39) rfl
  have F25 : Fun K "_law_sum_loose" "_law_sum_loose" sSLoo (He.ga K "_law_sum_loose") d25 := fun_of D25
  have g25 : mg "_law_sum_loose" = some (.ref (He.ga K "_law_sum_loose")) := He.glo_ok X G (c.t.d.fact 25 (f := .glo "_law_sum_loose") rfl)
  have b25 : Binds K d25 ["pool", "word"] [] := F25.binds fun _ _ _ _ _ _ us hl => match us, hl with | [_, _], _ => rfl
  obtain ⟨d26, D26⟩ := c.t.d.def_ 26 (d := dd "_law_met" 40) rfl
  have F26 : Fun K "_law_met" "_law_met" sMet (He.ga K "_law_met") d26 := fun_of D26
  have g26 : mg "_law_met" = some (.ref (He.ga K "_law_met")) := He.glo_ok X G (c.t.d.fact 26 (f := .glo "_law_met") rfl)
  have b26 : Binds K d26 ["ask"] [] := F26.binds fun _ _ _ _ _ _ us hl => match us, hl with | [_], _ => rfl
  obtain ⟨d27, D27⟩ := c.t.d.def_ 27 (d := dd "_law_codes" 41) rfl
  have F27 : Fun K "_law_codes" "_law_codes" sCodes (He.ga K "_law_codes") d27 := fun_of D27
  have g27 : mg "_law_codes" = some (.ref (He.ga K "_law_codes")) := He.glo_ok X G (c.t.d.fact 27 (f := .glo "_law_codes") rfl)
  have b27 : Binds K d27 ["pieces"] [] := F27.binds fun _ _ _ _ _ _ us hl => match us, hl with | [_], _ => rfl
  obtain ⟨d28, D28⟩ := c.t.d.def_ 28 (d := dd "_law_told_right" 42) rfl
  have F28 : Fun K "_law_told_right" "_law_told_right" sTold (He.ga K "_law_told_right") d28 := fun_of D28
  have g28 : mg "_law_told_right" = some (.ref (He.ga K "_law_told_right")) := He.glo_ok X G (c.t.d.fact 28 (f := .glo "_law_told_right") rfl)
  have b28 : Binds K d28 ["image", "pieces", "start"] [] := F28.binds fun _ _ _ _ _ _ us hl => match us, hl with | [_, _, _], _ => rfl
  obtain ⟨d29, D29⟩ := c.t.d.def_ 29 (d := dd "_law_unlike" 43) rfl
  have F29 : Fun K "_law_unlike" "_law_unlike" sUnl (He.ga K "_law_unlike") d29 := fun_of D29
  have g29 : mg "_law_unlike" = some (.ref (He.ga K "_law_unlike")) := He.glo_ok X G (c.t.d.fact 29 (f := .glo "_law_unlike") rfl)
  have b29 : Binds K d29 ["pool", "pieces", "start"] [] := F29.binds fun _ _ _ _ _ _ us hl => match us, hl with | [_, _, _], _ => rfl
  obtain ⟨d30, D30⟩ := c.t.d.def_ 30 (d := dd "_law_refused_right" 44) rfl
  have F30 : Fun K "_law_refused_right" "_law_refused_right" sRef (He.ga K "_law_refused_right") d30 := fun_of D30
  have g30 : mg "_law_refused_right" = some (.ref (He.ga K "_law_refused_right")) := He.glo_ok X G (c.t.d.fact 30 (f := .glo "_law_refused_right") rfl)
  have b30 : Binds K d30 ["pool", "pieces", "names", "start"] [] := F30.binds fun _ _ _ _ _ _ us hl => match us, hl with | [_, _, _, _], _ => rfl
  obtain ⟨d31, D31⟩ := c.t.d.def_ 31 (d := dd "law" 45) rfl
  have F31 : Fun K "law" "law" sLaw (He.ga K "law") d31 := fun_of D31
  have g31 : mg "law" = some (.ref (He.ga K "law")) := He.glo_ok X G (c.t.d.fact 31 (f := .glo "law") rfl)
  have b31 : Binds K d31 ["script"] [] := F31.binds fun _ _ _ _ _ _ us hl => match us, hl with | [_], _ => rfl
  obtain ⟨e0, E0⟩ := c.t.d.def_ 32 (d := ⟨("Image", some "__init__"), "__init__", "Image.__init__", defArgs sImg, defBody sImg, defScope sImg, [], []⟩) rfl
  have M0 : Fun K "__init__" "Image.__init__" sImg (He.ma K (He.ga K "Image") "__init__") e0 := fun_of E0
  have q0 : Binds K e0 ["self", "pieces", "start"] [] := M0.binds fun _ _ _ _ _ _ us hl => match us, hl with | [_, _, _], _ => rfl
  have a0 := He.meth_ok (c.t.d.fact 77 (f := .meth "Image" "__init__") rfl)
  obtain ⟨e1, E1⟩ := c.t.d.def_ 33 (d := ⟨("Image", some "pieces"), "pieces", "Image.pieces", defArgs sPieces, defBody sPieces, defScope sPieces, [], []⟩) rfl
  have M1 : Fun K "pieces" "Image.pieces" sPieces (He.ma K (He.ga K "Image") "pieces") e1 := fun_of E1
  have q1 : Binds K e1 ["self"] [] := M1.binds fun _ _ _ _ _ _ us hl => match us, hl with | [_], _ => rfl
  have a1 := He.meth_ok (c.t.d.fact 78 (f := .meth "Image" "pieces") rfl)
  obtain ⟨e2, E2⟩ := c.t.d.def_ 34 (d := ⟨("Image", some "word"), "word", "Image.word", defArgs sWordM, defBody sWordM, defScope sWordM, [], []⟩) rfl
  have M2 : Fun K "word" "Image.word" sWordM (He.ma K (He.ga K "Image") "word") e2 := fun_of E2
  have q2 : Binds K e2 ["self", "p", "k"] [] := M2.binds fun _ _ _ _ _ _ us hl => match us, hl with | [_, _, _], _ => rfl
  have a2 := He.meth_ok (c.t.d.fact 79 (f := .meth "Image" "word") rfl)
  obtain ⟨e3, E3⟩ := c.t.d.def_ 35 (d := ⟨("Image", some "__len__"), "__len__", "Image.__len__", defArgs sLen, defBody sLen, defScope sLen, [], []⟩) rfl
  have M3 : Fun K "__len__" "Image.__len__" sLen (He.ma K (He.ga K "Image") "__len__") e3 := fun_of E3
  have q3 : Binds K e3 ["self"] [] := M3.binds fun _ _ _ _ _ _ us hl => match us, hl with | [_], _ => rfl
  have a3 := He.meth_ok (c.t.d.fact 80 (f := .meth "Image" "__len__") rfl)
  obtain ⟨e4, E4⟩ := c.t.d.def_ 36 (d := ⟨("Image", some "__eq__"), "__eq__", "Image.__eq__", defArgs sEq, defBody sEq, defScope sEq, [], []⟩) rfl
  have M4 : Fun K "__eq__" "Image.__eq__" sEq (He.ma K (He.ga K "Image") "__eq__") e4 := fun_of E4
  have q4 : Binds K e4 ["self", "other"] [] := M4.binds fun _ _ _ _ _ _ us hl => match us, hl with | [_, _], _ => rfl
  have a4 := He.meth_ok (c.t.d.fact 81 (f := .meth "Image" "__eq__") rfl)
  obtain ⟨dB, DB⟩ := c.t.d.def_ 37 (d := ⟨("BadPiece", some "__init__"), "__init__", "BadPiece.__init__", defArgs sIniB, defBody sIniB, defScope sIniB, [], []⟩) rfl
  have FB : Fun K "__init__" "BadPiece.__init__" sIniB (He.ma K (He.ga K "BadPiece") "__init__") dB := fun_of DB
  have bB : Binds K dB ["self", "index"] [] := FB.binds fun _ _ _ _ _ _ us hl => match us, hl with | [_, _], _ => rfl
  obtain ⟨dW, DW⟩ := c.t.d.def_ 38 (d := ⟨("BadWord", some "__init__"), "__init__", "BadWord.__init__", defArgs sIniW, defBody sIniW, defScope sIniW, [], []⟩) rfl
  have FW : Fun K "__init__" "BadWord.__init__" sIniW (He.ma K (He.ga K "BadWord") "__init__") dW := fun_of DW
  have bW : Binds K dW ["self", "p", "k"] [] := FW.binds fun _ _ _ _ _ _ us hl => match us, hl with | [_, _, _], _ => rfl
  obtain ⟨dS, DS⟩ := c.t.d.def_ 39 (d := ⟨("BadStart", some "__init__"), "__init__", "BadStart.__init__", defArgs sIniS, defBody sIniS, defScope sIniS, [], []⟩) rfl
  have FS : Fun K "__init__" "BadStart.__init__" sIniS (He.ma K (He.ga K "BadStart") "__init__") dS := fun_of DS
  have bS : Binds K dS ["self", "address"] [] := FS.binds fun _ _ _ _ _ _ us hl => match us, hl with | [_, _], _ => rfl
  obtain ⟨dN, DN⟩ := c.t.d.def_ 40 (d := ⟨("NoWord", some "__init__"), "__init__", "NoWord.__init__", defArgs sIniN, defBody sIniN, defScope sIniN, [], []⟩) rfl
  have FN : Fun K "__init__" "NoWord.__init__" sIniN (He.ma K (He.ga K "NoWord") "__init__") dN := fun_of DN
  have bN : Binds K dN ["self", "p", "k"] [] := FN.binds fun _ _ _ _ _ _ us hl => match us, hl with | [_, _, _], _ => rfl
  have CA : FunM K "_law_told_right" "_law_told_right" sTold (cA K).1 (He.ga K "_law_told_right") d28 := funM_of (p := ("_law_told_right", none)) D28
  have CR : FunM K "_law_refused_right" "_law_refused_right" sRef (cW K).1 (He.ga K "_law_refused_right") d30 := funM_of (p := ("_law_refused_right", none)) D30
  refine ⟨d31, F31, fun base Xb Gb TL1 TL2 => ?_⟩
  have EBe : Err P w K mg base "BadPiece" (He.ga K "BadPiece") "index" := ⟨gB, OB, nBindex, XB, eB, ⟨_, dB, "index", mB.at_, eq_of_beq mB.fn, bB, ok_iniB FB OB nBindex⟩⟩
  have EWe : Err2 P w K mg base "BadWord" (He.ga K "BadWord") "p" "k" := ⟨gW, OW, nWp, nWk, XW, eW, ⟨_, dW, "p", "k", mW.at_, eq_of_beq mW.fn, bW, ok_iniW FW OW nWp nWk⟩⟩
  have ESe : Err P w K mg base "BadStart" (He.ga K "BadStart") "address" := ⟨gS, OS, nSaddress, XS, eS, ⟨_, dS, "address", mS.at_, eq_of_beq mS.fn, bS, ok_iniS FS OS nSaddress⟩⟩
  have ENe : Err2 P w K mg base "NoWord" (He.ga K "NoWord") "p" "k" := ⟨gN, ON, nNp, nNk, XN, eN, ⟨_, dN, "p", "k", mN.at_, eq_of_beq mN.fn, bN, ok_iniN FN ON nNp nNk⟩⟩
  have YP : HasM P w K mg base CX0 1 (He.ga K "Image") "pieces" ["self"] (spPieces K (He.ga K "Image")) := ⟨⟨_, e1, a1, q1, ok_pieces M1 T B⟩, CD⟩
  have H0 := has_of (base := base) (P := P) (w := w) g0 D0.kp b0 (ok_isInt F0 T)
  have H1 := has_of (base := base) (P := P) (w := w) g1 D1.kp b1 (ok_isRow F1 T)
  have HrA := has_of (base := base) (P := P) (w := w) g1 D1.kp b1 (ok_isRowA F1 T)
  have HrT := has_of (base := base) (P := P) (w := w) g1 D1.kp b1 (ok_isRowT F1 T)
  have H2 := has_of (base := base) (P := P) (w := w) g2 D2.kp b2 (ok_isRowOf F2 T (H1.mono (by decide)))
  have HoT := has_of (base := base) (P := P) (w := w) g2 D2.kp b2 (ok_isRowOfT F2 T (HrT.mono (by decide)))
  have H3 := has_of (base := base) (P := P) (w := w) g3 D3.kp b3 (ok_isName F3 T gLet)
  have H4 := has_of (base := base) (P := P) (w := w) g4 D4.kp b4 (ok_readAdr F4 (H2.mono (by decide)) (H3.mono (by decide)) (H0.mono (by decide)))
  have HaT := has_of (base := base) (P := P) (w := w) g4 D4.kp b4 (ok_readAdrT F4 (HoT.mono (by decide)) (H3.mono (by decide)) (H0.mono (by decide)))
  have H5 := has_of (base := base) (P := P) (w := w) g5 D5.kp b5 (ok_readUnk F5 T R (H2.mono (by decide)) (H0.mono (by decide)) (H3.mono (by decide)))
  have H7 := has_of (base := base) (P := P) (w := w) g7 D7.kp b7 (ok_oneForm F7 T R F6 g6)
  have H8 := has_of (base := base) (P := P) (w := w) g8 D8.kp b8 (ok_readSum F8 (H0.mono (by decide)) (H2.mono (by decide)) (H1.mono (by decide)) (H5.mono (by decide)) (H7.mono (by decide)))
  have H9 := has_of (base := base) (P := P) (w := w) g9 D9.kp b9 (ok_readPc F9 T (H2.mono (by decide)) (H3.mono (by decide)) (H1.mono (by decide)) (H8.mono (by decide)))
  have H10 := has_of (base := base) (P := P) (w := w) g10 D10.kp b10 (ok_readPcs F10 T EBe (HrA.mono (by decide)) (H9.mono (by decide)))
  have H11 := has_of (base := base) (P := P) (w := w) g11 D11.kp b11 (ok_words F11 T)
  have H13 := has_of (base := base) (P := P) (w := w) g13 D13.kp b13 (ok_kinds F13 T)
  have H14 := has_of (base := base) (P := P) (w := w) g14 D14.kp b14 (ok_checkW F14 T EWe)
  have H12 := has_of (base := base) (P := P) (w := w) g12 D12.kp b12 (ok_wordAt F12 ENe (HaT.mono (by decide)))
  have H15 := has_of (base := base) (P := P) (w := w) g15 D15.kp b15 (ok_cell F15 T.len)
  have H16 := has_of (base := base) (P := P) (w := w) g16 D16.kp b16 (ok_pool F16 T)
  have H17 := has_of (base := base) (P := P) (w := w) g17 D17.kp b17 (ok_take F17 T)
  have H18 := has_of (base := base) (P := P) (w := w) g18 D18.kp b18 (ok_one F18 T (H17.mono (by decide)))
  have H19 := has_of (base := base) (P := P) (w := w) g19 D19.kp b19 (ok_mixed F19 T (H17.mono (by decide)))
  have H20 := has_of (base := base) (P := P) (w := w) g20 D20.kp b20 (ok_lkey F20)
  have H21 := has_of (base := base) (P := P) (w := w) g21 D21.kp b21 (ok_total F21 T (H20.mono (by decide)))
  have H22 := has_of (base := base) (P := P) (w := w) g22 D22.kp b22 (ok_lword F22 T (H17.mono (by decide)) (H18.mono (by decide)) (H21.mono (by decide)))
  have H23 := has_of (base := base) (P := P) (w := w) g23 D23.kp b23 (ok_lpieces F23 T (H17.mono (by decide)) (H18.mono (by decide)) (H22.mono (by decide)))
  have H25 := has_of (base := base) (P := P) (w := w) g25 D25.kp b25 (ok_sloo F25 T (H17.mono (by decide)) (H18.mono (by decide)))
  have H27 := has_of (base := base) (P := P) (w := w) g27 D27.kp b27 (ok_codes F27 T)
  have YW : HasM P w K mg base (L2.CX P w) 6 (He.ga K "Image") "word" ["self", "p", "k"] (spWordM K (He.ga K "Image") (He.ga K "NoWord")) := ⟨⟨_, e2, a2, q2, ok_wordM M2 B (H12.mono (by decide))⟩, CD⟩
  have Q0 : Has P w K mg base CX0 4 "_law_loose" ["pool", "thing"] (spLoo K 0) := has_of (base := base) (P := P) (w := w) g24 D24.kp b24 (ok_loo0 F24)
  have Q1 : Has P w K mg base CX0 5 "_law_loose" ["pool", "thing"] (spLoo K 1) := has_of (base := base) (P := P) (w := w) g24 D24.kp b24 (ok_loo F24 T Q0 (H17.mono (by decide)))
  have Q2 : Has P w K mg base CX0 6 "_law_loose" ["pool", "thing"] (spLoo K 2) := has_of (base := base) (P := P) (w := w) g24 D24.kp b24 (ok_loo F24 T Q1 (H17.mono (by decide)))
  have Q3 : Has P w K mg base CX0 7 "_law_loose" ["pool", "thing"] (spLoo K 3) := has_of (base := base) (P := P) (w := w) g24 D24.kp b24 (ok_loo F24 T Q2 (H17.mono (by decide)))
  have Q4 : Has P w K mg base CX0 8 "_law_loose" ["pool", "thing"] (spLoo K 4) := has_of (base := base) (P := P) (w := w) g24 D24.kp b24 (ok_loo F24 T Q3 (H17.mono (by decide)))
  have Q5 : Has P w K mg base CX0 9 "_law_loose" ["pool", "thing"] (spLoo K 5) := has_of (base := base) (P := P) (w := w) g24 D24.kp b24 (ok_loo F24 T Q4 (H17.mono (by decide)))
  have Q6 : Has P w K mg base CX0 10 "_law_loose" ["pool", "thing"] (spLoo K 6) := has_of (base := base) (P := P) (w := w) g24 D24.kp b24 (ok_loo F24 T Q5 (H17.mono (by decide)))
  have Q7 : Has P w K mg base CX0 11 "_law_loose" ["pool", "thing"] (spLoo K 7) := has_of (base := base) (P := P) (w := w) g24 D24.kp b24 (ok_loo F24 T Q6 (H17.mono (by decide)))
  have Q8 : Has P w K mg base CX0 12 "_law_loose" ["pool", "thing"] (spLoo K 8) := has_of (base := base) (P := P) (w := w) g24 D24.kp b24 (ok_loo F24 T Q7 (H17.mono (by decide)))
  have Q9 : Has P w K mg base CX0 13 "_law_loose" ["pool", "thing"] (spLoo K 9) := has_of (base := base) (P := P) (w := w) g24 D24.kp b24 (ok_loo F24 T Q8 (H17.mono (by decide)))
  have Q10 : Has P w K mg base CX0 14 "_law_loose" ["pool", "thing"] (spLoo K 10) := has_of (base := base) (P := P) (w := w) g24 D24.kp b24 (ok_loo F24 T Q9 (H17.mono (by decide)))
  have Q11 : Has P w K mg base CX0 15 "_law_loose" ["pool", "thing"] (spLoo K 11) := has_of (base := base) (P := P) (w := w) g24 D24.kp b24 (ok_loo F24 T Q10 (H17.mono (by decide)))
  have Q12 : Has P w K mg base CX0 16 "_law_loose" ["pool", "thing"] (spLoo K 12) := has_of (base := base) (P := P) (w := w) g24 D24.kp b24 (ok_loo F24 T Q11 (H17.mono (by decide)))
  have Q13 : Has P w K mg base CX0 17 "_law_loose" ["pool", "thing"] (spLoo K 13) := has_of (base := base) (P := P) (w := w) g24 D24.kp b24 (ok_loo F24 T Q12 (H17.mono (by decide)))
  have Q14 : Has P w K mg base CX0 18 "_law_loose" ["pool", "thing"] (spLoo K 14) := has_of (base := base) (P := P) (w := w) g24 D24.kp b24 (ok_loo F24 T Q13 (H17.mono (by decide)))
  have MM : Met K mg (He.ga K "BadPiece") (He.ga K "BadWord") (He.ga K "BadStart") (He.ga K "NoWord") := ⟨⟨_, d26, g26, F26⟩, ⟨gB, gW, gS, gN, eB, eW, eS, eN, oWB, oSB, oSW, oNB, oNW, oNS, XB, XW, XS, XN, nBindex, nWp, nWk, nSaddress, nNp, nNk⟩⟩
  have MI : MkI P w K mg base (He.ga K "Image") (He.ga K "BadPiece") (He.ga K "BadWord") (He.ga K "BadStart") := ⟨gI, ⟨_, e0, KD, q0, ok_img M0 T B ESe (H10.mono (by decide)) (H11.mono (by decide)) (H13.mono (by decide)) (H14.mono (by decide)) (H4.mono (by decide))⟩⟩
  have LT : TT P w K mg base (He.ga K "Image") (He.ga K "BadPiece") (He.ga K "BadWord") (He.ga K "BadStart") (He.ga K "NoWord") := ⟨T, TS, B, YP, ⟨_, e3, a3.at_, a3.fn, q3, ok_len M3 T B⟩, YW, MM⟩
  have LRf : TRf P w K mg base (He.ga K "Image") (He.ga K "BadPiece") (He.ga K "BadWord") (He.ga K "BadStart") (He.ga K "NoWord") := ⟨T, H17, H18, MM, MI⟩
  have HTo : Has P w K mg base CX0 13 "_law_told_right" ["image", "pieces", "start"] (spTold K (TBs K) (He.ga K "Image")) := has_of (base := base) (P := P) (w := w) g28 D28.kp b28 (ok_told CA LT TL1 (List.mem_cons_self ..) (huA NE))
  have HRe : Has P w K mg base CX0 13 "_law_refused_right" ["pool", "pieces", "names", "start"] (spRef K (TBs K)) := has_of (base := base) (P := P) (w := w) g30 D30.kp b30 (ok_ref CR LRf TL2 (List.mem_cons_of_mem _ (List.mem_cons_self ..)) (huW NE))
  have HUn : Has P w K mg base CX0 13 "_law_unlike" ["pool", "pieces", "start"] (spUnl K (He.ga K "Image")) := has_of (base := base) (P := P) (w := w) g29 D29.kp b29 (ok_unl F29 T MI)
  have IQ : ImQ K (He.ga K "Image") (He.ma K (He.ga K "Image") "__eq__") := imqB_ok x10 a4.at_ a4.fn
  exact ⟨T, TRep, TA, H15, H16, H17, H18, H19, H23, H27, H25, Q14, HTo, HUn, HRe, MI, B, IQ, ⟨e4, ok_eq M4 T B IQ gI, q4⟩, YP⟩
end DR

open PySem PySem.W PySem.Calls PyProof.Rows
theorem PySem.Challenge.cw_loadanywhere_k03_images_made_holds : PySem.Challenge.rw_loadanywhere_k03_images_made.Holds := by
  w_on; o_law
  refine HandSHeadRun.head_any (r := DR.RR) (q := view DR.RR.prog [45]) (H := DR.hkk) (ob := DR.obb) (M := 6000) (loose := DR.loosL) (d := HandSHeadRun.topDef DR.RR.prog 45) (kwd := []) DR.obb_eq
    (by kernel_rfl) (fun s => by kernel_rfl) DR.runL (by kernel_rfl) (by kernel_rfl) (by kernel_rfl) (by rfl) (by first | assumption | decide +kernel) (by decide +kernel) ⟨rfl, rfl, rfl, rfl, rfl, by decide +kernel⟩ ?hw ?hc
  case hw => w_witness2
  case hc =>
    refine GA.walk_here (l := PySem.Challenge.rw_loadanywhere_k03_images_made) (n := 63) (CX := fun w => L2.CX PySem.Challenge.rw_loadanywhere_k03_images_made.prog w) rfl (by decide) (by kernel_rfl) ?F (fun _ _ _ _ _ z => by
      obtain ⟨_, _, _, _, _, _, _, _, _, _, _, _, y⟩ := z
      exact y.elim)
    intro w mg fa h Y G hmg0
    obtain ⟨K, KX, c⟩ := Y
    have hmg : mg ("law" : PySem.Str) = some (.ref fa) := by
      have e : (HandSHeadRun.topDef DR.RR.prog 45).name = ("law" : PySem.Str) := by kernel_rfl
      rw [← e]
      exact hmg0
    have gL := He.glo_ok KX G (c.t.d.fact 31 (f := .glo "law") rfl)
    have efa := hmg.symm.trans gL
    cases efa
    obtain ⟨fd, hF, hL⟩ := DR.facts (P := PySem.Challenge.rw_loadanywhere_k03_images_made.prog) (w := w) KX G c
    refine ⟨K, KX, [DR.cA K, DR.cW K], ?_, ?_, ?_, ?_⟩
    · intro p hp
      rcases List.mem_cons.mp hp with rfl | hp
      · exact c.empty ("_law_told_right", none) (List.mem_cons_self ..)
      · obtain rfl := List.mem_singleton.mp hp
        exact c.empty ("_law_refused_right", none) (List.mem_cons_of_mem _ (List.mem_cons_self ..))
    · intro p hp
      rcases List.mem_cons.mp hp with rfl | hp
      · exact c.out ("_law_told_right", none) (List.mem_cons_self ..)
      · obtain rfl := List.mem_singleton.mp hp
        exact c.out ("_law_refused_right", none) (List.mem_cons_of_mem _ (List.mem_cons_self ..))
    · intro p hp
      rcases List.mem_cons.mp hp with rfl | hp
      · exact codeHd_of_K KX (c.hd ("_law_told_right", none) (List.mem_cons_self ..))
      · obtain rfl := List.mem_singleton.mp hp
        exact codeHd_of_K KX (c.hd ("_law_refused_right", none) (List.mem_cons_of_mem _ (List.mem_cons_self ..)))
    · intro base s H a ns Xb Gb hT hTab hS _ e0
      refine DR.law_here hF (hL base Xb Gb (hT _ (List.mem_cons_self ..)) (hT _ (List.mem_cons_of_mem _ (List.mem_cons_self ..)))) ⟨rfl, by decide, by decide⟩ e0 hS fun p hp => ?_
      rcases List.mem_cons.mp hp with rfl | hp
      · exact LamX.TabS.nil (hTab (DR.cA K) (List.mem_cons_self ..))
      · obtain rfl := List.mem_singleton.mp hp
        exact LamX.TabS.nil (hTab (DR.cW K) (List.mem_cons_of_mem _ (List.mem_cons_self ..)))
