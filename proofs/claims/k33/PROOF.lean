import PyProof.Rows.All
import Wide.All
import OpenK.AllK
import Wide.FinOn
import PyProof.EqAt
import PyProof.EqKinds
import PyProof.TupleCall
import PyProof.ReprRoads
import KE.KTupSum
import HandS.Base
import HandS.Call
import HandS.List
import HandS.Comp
import HandS.Ends
import HandS.Dict
import HandS.Iter
import HandS.Text
import HandS.Words
import HandS.WordsList
import HandS.Conv
import HandS.Wide
import HandS.WideBits
import HandS.Style
import HandS.TupMul
import HandS.TupAny
import HandS.Zip
import HandS.Flow
import HandS.Lambda
import HandS.IsInst
import PyProof.StrLawsRepr
import KE.KDictZip
import HandS.Zip0
import PyProof.TupleOfGen
import PyProof.TupleOfSeq
import HandS.ExcInit
import HandS.ExcIs
import HandS.ExcField
import HandS.ExcValue
import HandS.Defaults
import KE.SortData
import KE.DataMinMax
import HandS.SortOrd
import HandS.SetFor
import HandS.SortInts
import HandS.TupSets
import HandS.GenBody
import HandS.GenYield
import HandS.GenCall
import HandS.GenList
import HandS.CallLocal
import HandS.SortKw
import HandS.Small
import HandS.Strs
import HandS.TupLe
import KE.GoesEnum
import HandS.Deep
import PySem.Challenge.RW_settledlines_k33_held_words
set_option Elab.async false
set_option linter.all false
set_option maxRecDepth 100000
/-! Settledlines, own layer 0: defs called where the guards are known to be none; repr of data; sums of tuples; wide powers. -/
namespace SL
open PySem PySem.Spec PyProof.Rows L2

/-! ### a def's promise where no repr is under way -/
structure FnG (P : Program) (w : World) (K : PySem.W.Frag) (mg : Str → Option Value) (base : Heap) (CX : CXT) (k : Nat) (f : Addr) (fd : FuncData) (ps : List Str) (sp : Sp) : Prop where
  len : ∀ vs H Q E, sp vs H Q E → vs.length = ps.length
  run : ∀ (A : Around) (outer : List Env) (s : Shared) (H : Hp) (args : Args) (us : List Value) (vs : List V) (Q : VK) (E : XK), A.guards = some [] → Room k A →
    Env0 P w K mg base A outer s H → BindsTo s fd args (ps.zip us) → Vals vs us → sp vs H Q E → codeAny (model P w) A (.call (.ref f) args) (CR CX outer P w H s Q E) s

section
variable {P : Program} {w : World} {K : PySem.W.Frag} {mg : Str → Option Value} {base : Heap} {CX : CXT}
theorem FnG.mono {j k : Nat} {f : Addr} {fd : FuncData} {ps : List Str} {sp : Sp} (F : FnG P w K mg base CX j f fd ps sp) (h : j ≤ k) : FnG P w K mg base CX k f fd ps sp :=
  ⟨F.len, fun A o s H args us vs Q E hg hr => F.run A o s H args us vs Q E hg (hr.mono h)⟩
theorem FnG.of {k : Nat} {f : Addr} {fd : FuncData} {ps : List Str} {sp : Sp} (F : FnOk P w K mg base CX k f fd ps sp) : FnG P w K mg base CX k f fd ps sp :=
  ⟨F.len, fun A o s H args us vs Q E _ hr => F.run A o s H args us vs Q E hr⟩
/-- a def by its body, no repr under way -/
theorem okG {x qual : Str} {st : Stmt} {f : Addr} {fd : FuncData} {N ps : List Str} {k : Nat} {sp : Sp} (F : Fun K x qual st f fd) (S : FnScope N ps (defScope st)) (len : ∀ vs H Q E, sp vs H Q E → vs.length = ps.length)
    (hbody : ∀ (cdv : Value) (A : Around) (outer : List Env) (s : Shared) (H : Hp) (vs : List V) (Q : VK) (E : XK), A.guards = some [] → Room k (A.deeper (envOfC qual (defScope st) s.heap.objs.size f cdv)) → sp vs H Q E →
      ∃ t, PSs (cxOf CX P w K mg base N qual (defScope st) f cdv A outer s H E) (defBody st) t ∧ t { nx := fun _ H' => Q .non H', rt := Q } (start N vs) H) : FnG P w K mg base CX (k + 1) f fd ps sp := by
  obtain ⟨oc, od, kV, doc, pm, an, cdv, ct, osl, rfl, lk, hcd⟩ := F.ex
  exact ⟨len, fun A o s H args us vs Q E hg hr e0 hb rv hsp => LamX.run_ofS lk hcd S hr e0 hb rv (len _ _ _ _ hsp) fun hr2 => hbody cdv A o s H vs Q E hg hr2 hsp⟩
theorem okG0 {x qual : Str} {st : Stmt} {f : Addr} {fd : FuncData} {N ps : List Str} {k : Nat} {sp : Sp} (F : Fun K x qual st f fd) (S : FnScope N ps (defScope st)) (len : ∀ vs H Q E, sp vs H Q E → vs.length = ps.length)
    (hbody : ∀ (cdv : Value) (A : Around) (outer : List Env) (s : Shared) (H : Hp) (vs : List V) (Q : VK) (E : XK), A.guards = some [] → Room k (A.deeper (envOfC qual (defScope st) s.heap.objs.size f cdv)) → sp vs H Q E →
      ∃ t, PSs (cxOf CX0 P w K mg base N qual (defScope st) f cdv A outer s H E).nox (defBody st) t ∧ t { nx := fun _ H' => Q .non H', rt := Q } (start N vs) H) : FnG P w K mg base CX0 (k + 1) f fd ps sp :=
  okG F S len fun cdv A o s H vs Q E hg hr h => let ⟨t, a, b⟩ := hbody cdv A o s H vs Q E hg hr h; ⟨t, a.nox, b⟩
end

/-- all that a caller wants of a def: where it stands, how it binds, what it promises -/
structure Def (P : Program) (w : World) (K : PySem.W.Frag) (mg : Str → Option Value) (base : Heap) (CX : CXT) (k : Nat) (x : Str) (st : Stmt) (ps : List Str) (sp : Sp) : Prop where
  ex : ∃ f fd, Fun K x x st f fd ∧ mg x = some (.ref f) ∧ FnG P w K mg base CX k f fd ps sp
theorem Def.mono {P : Program} {w : World} {K : PySem.W.Frag} {mg : Str → Option Value} {base : Heap} {CX : CXT} {j k : Nat} {x : Str} {st : Stmt} {ps : List Str} {sp : Sp} (D : Def P w K mg base CX j x st ps sp) (h : j ≤ k) : Def P w K mg base CX k x st ps sp :=
  let ⟨f, fd, a, b, c⟩ := D.ex; ⟨f, fd, a, b, c.mono h⟩

/-- where a def of the text stands -/
def Stands (K : PySem.W.Frag) (mg : Str → Option Value) (x : Str) (st : Stmt) : Prop := ∃ f fd, Fun K x x st f fd ∧ mg x = some (.ref f)

section
variable {X : Cx} {CX : CXT} {k : Nat} {st : Stmt} {ps ks : List Str} {sp : Sp} {E : XK} {x : Str} {p pos : Pos} {e : Expr} {es : List Expr} {kws : List Keyword} {t tk : TA}

theorem run_fnG {f : Addr} {fd : FuncData} {pins : List (Addr × Obj)} {σ : L2.St} {H : Hp} {s : Shared} {Q : VK} {args : Args} {us : List Value} {vs : List V} (F : FnG X.prog X.w X.K X.mg X.base CX k f fd ps sp) (hg : X.A.guards = some []) (hr : Room k X.A) (hx : Passes CX X E)
    (hb : BindsTo s fd args (ps.zip us)) (I : Inv X pins σ H s) (r : Vals vs us) (h : sp vs H Q E) : wpAny (model X.prog X.w) X.A (call (.ref f) args.pos args.kw) (EP X pins σ Q) X.xe s := by
  refine wpAny_call (codeAny_mono (F.run X.A X.stack s H args us vs Q E hg hr I.env0 hb r h) fun a s' hq => ?_)
  match a, hq with
  | .error e, hq => exact hx pins σ H s e s' I hq
  | .ok (.ret u), hq => exact I.after hq
  | .ok .next, hq => exact False.elim hq
  | .ok .brk, hq => exact False.elim hq
  | .ok .cont, hq => exact False.elim hq

/-- f(e, ..) -/
def tCallG (sp : Sp) (E : XK) (t : TA) : TE := fun σ H Q => t σ H fun vs H1 => sp vs H1 Q E
theorem pe_callG (D : Def X.prog X.w X.K X.mg X.base CX k x st ps sp) (hg : X.A.guards = some []) (hr : Room k X.A) (hgl : Gl X x) (hx : Passes CX X E)
    (hbind : ∀ (kV doc pm : Value) (an : Option Addr) (cdv ct : Value) (us : List Value), us.length = ps.length → bindArgs (PySem.W.fnOf x x (defArgs st) (defBody st) (defScope st) .none kV doc pm an cdv ct) ⟨us, []⟩ = pure (ps.zip us))
    (ha : PA X (e :: es) t) (hdb : (x == ("__debug__" : Str)) = false := by decide) (he : starEach (e :: es) X.env = (false, eval e X.env) :: starEach es X.env := by rfl) (hpl : (backTo pos (starEach es X.env)).any (·.1) = false := by rfl) :
    PE X (.Call (.Name x p) (e :: es) [] pos) (tCallG sp E t) := by
  obtain ⟨f, fd, F, hm, G⟩ := D.ex
  refine ⟨fun pins s σ H Q I h => wpAny_Call_Name_kw (ld_glob I hgl hm ?_ hdb)⟩
  refine PySem.W.callWith_K (h₀ := X.base) I.ok.mod.kin F.kp (thn (ha.run pos pins s σ H _ I h) fun us s1 ⟨vs, H1, I1, r, q⟩ => ⟨I1.kIn, ?_⟩) he hpl
  have hl : us.length = ps.length := r.length.symm.trans (G.len _ _ _ _ q)
  obtain ⟨oc, od, kV, doc, pm, an, cdv, ct, osl, rfl, lk, hcd⟩ := F.ex
  exact run_fnG (args := ⟨us, []⟩) G hg hr hx (.of_eq (hbind kV doc pm an cdv ct us hl)) I1 r q

/-- f(k = v, ..), keywords alone; g puts their values in the parameters' order -/
def tCallKG (n : Nat) (sp : Sp) (g : List V → List V) (E : XK) (tk : TA) : TE := fun σ H Q => tk σ H fun zs H1 => zs.length = n ∧ sp (g zs) H1 Q E
theorem pe_callKG {g : {α : Type} → List α → List α} (D : Def X.prog X.w X.K X.mg X.base CX k x st ps sp) (hg : X.A.guards = some []) (hr : Room k X.A) (hgl : Gl X x) (hx : Passes CX X E)
    (hbind : ∀ (kV doc pm : Value) (an : Option Addr) (cdv ct : Value) (ws : List Value), ws.length = ks.length → bindArgs (PySem.W.fnOf x x (defArgs st) (defBody st) (defScope st) .none kV doc pm an cdv ct) ⟨[], ks.zip ws⟩ = pure (ps.zip (g ws)))
    (hgv : ∀ {zs : List V} {ws : List Value}, zs.length = ks.length → Vals zs ws → Vals (g zs) (g ws)) (hkw : PK X kws tk) (hall : (backToKw pos (keywordEach kws X.env)).all (·.1.isSome) = true := by rfl) (hks : (backToKw pos (keywordEach kws X.env)).filterMap (·.1) = ks := by rfl)
    (hdb : (x == ("__debug__" : Str)) = false := by decide) (hpl : ((backTo pos (starEach [] X.env)).any (·.1) || (backToKw pos (keywordEach kws X.env)).any (·.1.isNone)) = false := by rfl) :
    PE X (.Call (.Name x p) [] kws pos) (tCallKG ks.length sp g E tk) := by
  obtain ⟨f, fd, F, hm, G⟩ := D.ex
  refine ⟨fun pins s σ H Q I h => wpAny_Call_Name_kw (ld_glob I hgl hm ?_ hdb)⟩
  refine PySem.W.callWith_KW0 (h₀ := X.base) I.ok.mod.kin F.kp hall (thn (hkw.run pos pins s σ H _ I h) fun ws s1 ⟨zs, H1, I1, r, hn, q⟩ => ⟨I1.kIn, ?_⟩) hpl
  rw [hks]
  obtain ⟨oc, od, kV, doc, pm, an, cdv, ct, osl, rfl, lk, hcd⟩ := F.ex
  exact run_fnG (args := ⟨[], ks.zip ws⟩) G hg hr hx (.of_eq (hbind kV doc pm an cdv ct ws (r.length.symm.trans hn))) I1 (hgv hn r) q
end

/-! ### wide powers -/
section
variable {X : Cx}
def CPowW (i j : Int) : Prop := 0 ≤ j ∧ (Builtin.Int.intBits i : Int) * j ≤ 2 ^ 27
theorem op_powW : OpR X (binaryOp .Pow) (rI CPowW fun i j => .int (i ^ j.toNat)) := opI fun _ _ _ _ _ _ _ hc q => PyProof.Rows.pow_int hc.1 hc.2 q

/-! ### sum of a tuple of ints -/
def rSumT (K : PySem.W.Frag) : List V → Hp → VK → Prop := fun vs H Q => ∃ (a : Addr) (ns : List Int), vs = [V.ref a] ∧ SqT K H a (ns.map V.int) ∧ Q (.int ns.sum) H
theorem cr_sumT (hc : X.calm = true) : CallR X (.builtin "sum") (rSumT X.K) := by
  intro pins s σ H vs us Q I r h
  obtain ⟨a, ns, rfl, hs, q⟩ := h
  obtain ⟨its, rv, ht, _⟩ := I.tuple hs
  obtain ⟨xs, e⟩ := rv.ints.allInts.items
  have hn : numsOf (intItems xs).toList = ns := by rw [← e]; exact rv.ints.numsOf
  rw [nums_intItems] at hn
  rw [e] at ht
  rw [Vals.ref1 r]
  refine PySem.W.ktm_sumG (I.ok.hd hc) ht fun h' tk t' hk => ?_
  rw [preSum_eq, List.take_of_length_le (by simp), hn]
  exact ⟨.int _, H, I.kept hk, ⟨_, rfl⟩, q⟩

/-! ### repr of data -/
mutual
/-- more than the length of what is shown -/
def wt : PyData → Nat
  | .none => 4
  | .bool _ => 5
  | .int i => i.natAbs.log2 + 4
  | .str x => (reprText x).length
  | .list xs => wtAll xs + 3
  | .tuple xs => wtAll xs + 3
  | .dict kvs => (dictText (PyData.shownKv kvs)).length
def wtAll : List PyData → Nat
  | [] => 0
  | x :: xs => wt x + 2 + wtAll xs
end
theorem int_shown_len (i : Int) : (Str.ofString (toString i)).length ≤ i.natAbs.log2 + 4 := by
  have e := int_text_length_le (a := i) (k := i.natAbs.log2 + 1) (by omega) (by omega)
  rw [PySem.ofString_length]
  omega
mutual
theorem shown_le : ∀ d : PyData, d.shown.length ≤ wt d
  | .none => by simp only [PyData.shown, wt]; decide
  | .bool b => by cases b <;> (simp only [PyData.shown, wt]; decide)
  | .int i => by simp only [PyData.shown, wt]; exact int_shown_len i
  | .str x => by simp only [PyData.shown, wt]; exact Nat.le_refl _
  | .list xs => by
    simp only [PyData.shown, wt]
    have h := listText_len_le (PyData.shownAll xs)
    have h2 := shownAll_le xs
    omega
  | .tuple xs => by
    simp only [PyData.shown, wt]
    have h := tupleText_len_le (PyData.shownAll xs)
    have h2 := shownAll_le xs
    omega
  | .dict kvs => by simp only [PyData.shown, wt]; exact Nat.le_refl _
theorem shownAll_le : ∀ ds : List PyData, ((PyData.shownAll ds).map (·.length)).sum + 2 * (PyData.shownAll ds).length ≤ wtAll ds
  | [] => by simp [PyData.shownAll, wtAll]
  | d :: ds => by
    have h1 := shown_le d
    have h2 := shownAll_le ds
    simp only [PyData.shownAll, wtAll, List.map_cons, List.sum_cons, List.length_cons]
    omega
end
mutual
theorem dp_nodict {K : PySem.W.Frag} {H : Hp} : ∀ (d : PyData) {v : V}, Dp K H v d → d.hasDict = false
  | .none, _, _ => by simp only [PyData.hasDict]
  | .bool _, _, _ => by simp only [PyData.hasDict]
  | .int _, _, _ => by simp only [PyData.hasDict]
  | .str _, _, _ => by simp only [PyData.hasDict]
  | .list ds, _, h => by
    cases h with
    | lst _ ha => simp only [PyData.hasDict]; exact dp_nodictAll ds ha
  | .tuple ds, _, h => by
    cases h with
    | tup _ ha => simp only [PyData.hasDict]; exact dp_nodictAll ds ha
  | .dict _, _, h => by cases h
theorem dp_nodictAll {K : PySem.W.Frag} {H : Hp} : ∀ (ds : List PyData) {vs : List V}, DpAll K H vs ds → PyData.hasDictAll ds = false
  | [], _, _ => by simp only [PyData.hasDictAll]
  | d :: ds, _, h => by
    cases h with
    | cons h1 h2 => simp only [PyData.hasDictAll, dp_nodict d h1, dp_nodictAll ds h2, Bool.or_false]
end
def rReprD (K : PySem.W.Frag) : List V → Hp → VK → Prop := fun vs H Q => ∃ (v : V) (d : PyData), vs = [v] ∧ Dp K H v d ∧ d.showable = true ∧ d.depth ≤ 50 ∧ wt d ≤ 1000000 ∧ Q (.str d.shown) H
theorem cr_repr (hg : X.A.guards = some []) (hu : X.A.units + 64 < cLine) : CallR X (.builtin "repr") (rReprD X.K) := by
  intro pins s σ H vs us Q I r h
  obtain ⟨v, d, rfl, hd, hs, hdep, hwt, q⟩ := h
  obtain ⟨u, rfl, ru⟩ := vals1 r
  have hsz : d.shown.length ≤ sizeLine := by
    have h1 := shown_le d
    rw [sizeLine_eq]
    omega
  obtain ⟨as, rd⟩ := Dp.reads I d v u hd ru
  have nd := dp_nodict d hd
  cases rd with
  | none => exact PySem.P.repr_of_none ⟨.str _, H, I.tok _, ⟨_, rfl⟩, by simpa only [PyData.shown] using q⟩
  | bool b =>
    refine PySem.P.repr_of_bool ⟨.str _, H, I.tok _, ⟨_, rfl⟩, ?_⟩
    cases b <;> simpa only [PyData.shown] using q
  | int i t => exact PySem.P.repr_of_int (by simpa [PyData.showable] using hs) ⟨.str _, H, I.tok _, ⟨_, rfl⟩, by simpa only [PyData.shown] using q⟩
  | str x t => exact PySem.P.repr_of_str ⟨.str _, H, I.tok _, ⟨_, rfl⟩, by simpa only [PyData.shown] using q⟩ (by simpa only [PyData.shown] using hsz)
  | list h1 h2 h3 h4 => exact repr_of_reads' (.list h1 h2 h3 h4) hs (PyData.noDict_hsm nd) hg (by omega) (fun _ _ e => e) (fun h' u tk hk => ⟨.str _, H, I.kept hk, ⟨_, rfl⟩, q⟩) hsz
  | tuple h1 h2 h3 h4 => exact repr_of_reads' (.tuple h1 h2 h3 h4) hs (PyData.noDict_hsm nd) hg (by omega) (fun _ _ e => e) (fun h' u tk hk => ⟨.str _, H, I.kept hk, ⟨_, rfl⟩, q⟩) hsz
  | dict _ _ _ _ _ => cases hd
end
end SL

set_option Elab.async false
set_option linter.all false
set_option maxRecDepth 100000
/-! Own layer 1: the law's own call from the row's head, with the guards known. -/
namespace SL
open PySem PySem.Spec PyProof.Rows L2

section
variable {P : Program} {w : World} {K : PySem.W.Frag} {mg mb : Str → Option Value}
/-- the base is what is not tracked -/
theorem base_keeps {h : Heap} {H : Hp} {a : Addr} {vs : List Value} (ha : h.get? a = some { cls := .type "list", data := .seq vs.toArray }) (hA : ∀ b u, H b = some u → b = a) {b : Addr} {m : Str → Option Value} (n : h.Ns b m) : (hidT h H).Ns b m := by
  obtain ⟨o, es, ep, e, d, r⟩ := n
  refine ⟨o, es, ep, hidT_get e ?_, d, r⟩
  match q : H b with
  | none => rfl
  | some u =>
    have eb := hA b u q
    rw [eb, ha] at e
    have eo := Option.some.inj e
    rw [← eo] at d
    exact nomatch d
theorem base_in {h : Heap} {H : Hp} {a : Addr} (X : K.In h) (hA : ∀ b u, H b = some u → b = a ∧ K.lookup a = none) : K.In (hidT h H) := by
  intro b o e
  refine hidT_get (X b o e) ?_
  match q : H b with
  | none => rfl
  | some u =>
    obtain ⟨eb, en⟩ := hA b u q
    rw [eb, en] at e
    exact nomatch e
/-- the call, from a heap where nothing but the script may be tracked -/
theorem call_from {k : Nat} {fa a : Addr} {fd : FuncData} {x : Str} {sp : Sp} {s : Shared} {vs : List Value} {H : Hp}
    (KX : K.In s.heap) (hns : s.heap.Ns mainGlobals mg) (hb : s.heap.Ns builtinsNs mb) (hbb : ∀ x : Str, x ≠ "__name__" → mb x = bootBuiltins x) (hlim : s.heap.NoLimit) (hg : s.gens = #[])
    (ha : s.heap.get? a = some { cls := .type "list", data := .seq vs.toArray }) (hr : Room k callerA)
    (F : ∀ base : Heap, K.In base → base.Ns mainGlobals mg → FnG P w K mg base CX0 k fa fd [x] sp) (hbind : ∀ (s : Shared) (u : Value), BindsTo s fd ⟨[u], []⟩ [(x, u)])
    (ok : HOk P w H s.heap) (hA : ∀ b u, H b = some u → b = a ∧ K.lookup a = none) (hO : ∀ b u, H b = some u → ∃ o xs, u = .frz o (.lst xs))
    (hsp : sp [.ref a] H (fun v _ => v = .bl true) E0) :
    codeAny (model P w) callerA (.call (.ref fa) ⟨[.ref a], []⟩) (fun r s' => r = .ok (.ret (.bool true)) ∧ OldK s.heap s'.heap ∧ s'.os = s.os ∧ AllBare s'.gens) s := by
  have KB : K.In (hidT s.heap H) := base_in KX hA
  have kn : ∀ {b : Addr} {m : Str → Option Value}, s.heap.Ns b m → (hidT s.heap H).Ns b m := fun n => base_keeps ha (fun b u q => (hA b u q).1) n
  obtain ⟨mc, l1, l2⟩ := hlim
  have M : Mod K mg (hidT s.heap H) := ⟨KB, kn hns, ⟨mb, kn hb, hbb⟩, ⟨mc, kn l1, l2⟩⟩
  have nofr : ∀ b ∈ frs [], H b = none := fun b z => nomatch (show b ∈ ([] : List Addr) from z)
  have e0 : Env0 P w K mg (hidT s.heap H) callerA [] s H := { frames := rfl, mod := M, bs := fun b o e => of_hidT e, bsz := Nat.le_of_eq (hidT_size _ _), funs := trivial, frf := nofr, hok := ok, bare := .of_eq hg }
  have run := (F _ KB (kn hns)).run callerA [] s H ⟨[.ref a], []⟩ [.ref a] [.ref a] _ _ rfl hr e0 (hbind s (.ref a)) (.cons rfl .nil) hsp
  refine codeAny_mono run fun r s' h => ?_
  match r, h with
  | .error _, h => exact h.elim
  | .ok .next, h => exact h.elim
  | .ok .brk, h => exact h.elim
  | .ok .cont, h => exact h.elim
  | .ok (.ret u), ⟨v, H', os, bare, un, ok', rv, q⟩ =>
    have q : v = .bl true := q
    rw [q] at rv
    have eu : u = Value.bool true := rv
    refine ⟨by rw [eu], OldK.of_keep fun b o e => ?_, os, bare⟩
    match z : H b with
    | none => exact un.keep b o e z (fun y => nomatch (show b ∈ ([] : List Addr) from y)) (fun y => nomatch y)
    | some u' =>
      obtain ⟨ob, xs, eu'⟩ := hO b u' z
      rw [eu'] at z
      have a1 := (ok b _ z).1
      have a2 := (ok' b _ (un.frzs b ob _ z)).1
      rw [e] at a1
      rw [a2, ← a1]
theorem law_callG {k : Nat} {fa a : Addr} {fd : FuncData} {x : Str} {sp : Sp} {s : Shared} {vs : List Value} {ns : List Int}
    (KX : K.In s.heap) (hns : s.heap.Ns mainGlobals mg) (hb : s.heap.Ns builtinsNs mb) (hbb : ∀ x : Str, x ≠ "__name__" → mb x = bootBuiltins x) (hlim : s.heap.NoLimit) (hg : s.gens = #[])
    (ha : s.heap.get? a = some { cls := .type "list", data := .seq vs.toArray }) (hi : IntsAre vs ns) (hl : ns.length ≤ sizeLine) (hr : Room k callerA)
    (F : ∀ base : Heap, K.In base → base.Ns mainGlobals mg → FnG P w K mg base CX0 k fa fd [x] sp) (hbind : ∀ (s : Shared) (u : Value), BindsTo s fd ⟨[u], []⟩ [(x, u)])
    (hsp : ∀ H : Hp, SqL K H a (ns.map V.int) → sp [.ref a] H (fun v _ => v = .bl true) E0) :
    codeAny (model P w) callerA (.call (.ref fa) ⟨[.ref a], []⟩) (fun r s' => r = .ok (.ret (.bool true)) ∧ OldK s.heap s'.heap ∧ s'.os = s.os ∧ AllBare s'.gens) s := by
  have rv := vals_ints hi
  have hlv := hi.length
  match hk : K.lookup a with
  | some o =>
    have e := (KX a o hk).symm.trans ha
    have eo : o = _ := Option.some.inj e
    rw [eo] at hk
    have hs : SqL K (fun _ => none) a (ns.map V.int) := .inr ⟨_, vs.toArray, _, hk, rfl, rfl, rfl, by rw [List.size_toArray, hlv]; exact hl, rv⟩
    exact call_from KX hns hb hbb hlim hg ha hr F hbind (H := fun _ => none) (fun _ _ z => nomatch z) (fun _ _ z => nomatch z) (fun _ _ z => nomatch z) (hsp _ hs)
  | none =>
    let ob : Obj := { cls := .type "list", data := .seq vs.toArray }
    let H0 : Hp := upd (fun _ => none) a (.frz ob (.lst (ns.map V.int)))
    have at0 : H0 a = some (.frz ob (.lst (ns.map V.int))) := upd_same
    have only : ∀ b u, H0 b = some u → b = a ∧ u = .frz ob (.lst (ns.map V.int)) := fun b u z => by
      by_cases eb : b = a
      · rw [eb, at0] at z
        exact ⟨eb, (Option.some.inj z).symm⟩
      · have z2 : (upd (fun _ => none) a (.frz ob (.lst (ns.map V.int)))) b = some u := z
        rw [upd_ne eb] at z2
        exact nomatch z2
    refine call_from KX hns hb hbb hlim hg ha hr F hbind (H := H0) (fun b u z => ?_) (fun b u z => ⟨(only b u z).1, hk⟩) (fun b u z => ⟨_, _, (only b u z).2⟩) (hsp _ (.inl (.inr ⟨ob, at0⟩)))
    obtain ⟨eb, eu⟩ := only b u z
    rw [eb, eu]
    exact ⟨ha, by rw [List.length_map]; exact hl, vs, _, rv, ha⟩
end

/-- the goal that k_head leaves, from the law's promise -/
theorem walkG {l : PySem.W.OpenLaw} {n k : Nat} {q : Program} {loose : List Str} {XP : (Str → Option Value) → Heap → Prop} {YP : World → Heap → Prop} {d : DefRec} {K : Params → PySem.W.Frag} {sp : PySem.W.Frag → Sp} {x : Str}
    (hn : l.most = some n) (hn2 : n ≤ sizeLine) (hdf : d.params.defaults = []) (hr : Room k callerA) (hY : ∀ (w : World) (h : Heap), YP w h → (K w.params).In h)
    (F : ∀ (w : World) (mg : Str → Option Value) (fa : Addr) (h : Heap), (K w.params).In h → h.Ns mainGlobals mg → mg d.name = some (.ref fa) →
      ∃ fd : FuncData, (∀ (s : Shared) (u : Value), BindsTo s fd ⟨[u], []⟩ [(x, u)]) ∧ ∀ base : Heap, (K w.params).In base → base.Ns mainGlobals mg → FnG l.prog w (K w.params) mg base CX0 k fa fd [x] (sp (K w.params)))
    (hsp : ∀ (K : PySem.W.Frag) (H : Hp) (a : Addr) (ns : List Int), ns.length ≤ n → SqL K H a (ns.map V.int) → sp K [.ref a] H (fun v _ => v = .bl true) E0) :
    PySem.W.WalkO q loose XP YP l.row.toRowW d [] (fun f vs => PySem.call f vs) := by
  refine Att.attach_call hn hdf fun w s0 s1 mg mb fa o pm cd doc a vs ns G Y ho hd hcd hmg hobj hints hlen hg => ?_
  have KX := hY w _ Y
  obtain ⟨fd, hb, hF⟩ := F w mg fa _ KX G.T.g hmg
  exact law_callG KX G.T.g G.T.b G.T.builtins G.T.nolimit hg hobj hints (Nat.le_trans hlen hn2) hr hF hb fun H hS => hsp (K w.params) H a ns hlen hS
end SL

set_option Elab.async false
set_option linter.all false
set_option maxRecDepth 100000
/-! Own layer 2: the pot of draws; what is kept; promises of the helpers that all laws share. -/
namespace SL
open PySem PySem.Spec PyProof.Rows L2

/-! ### the built-in names that no module's name hides -/
structure Blt (mg : Str → Option Value) : Prop where
  len : mg "len" = none
  abs : mg "abs" = none
  max : mg "max" = none
  min : mg "min" = none
  sum : mg "sum" = none
  range : mg "range" = none
  repr : mg "repr" = none
  all : mg "all" = none
  any : mg "any" = none
  int : mg "int" = none
  tuple : mg "tuple" = none
  list : mg "list" = none
  str : mg "str" = none
  bool : mg "bool" = none
  dict : mg "dict" = none
  zip : mg "zip" = none
  enumerate : mg "enumerate" = none
  isinstance : mg "isinstance" = none
  sorted : mg "sorted" = none
  reversed : mg "reversed" = none
  set : mg "set" = none

/-! ### what is kept but for one list -/
/-- all but p is as it was -/
def Kp (p : Addr) (H H' : Hp) : Prop := ∀ b o, b ≠ p → H b = some o → H' b = some o
theorem Kp.refl {p : Addr} {H : Hp} : Kp p H H := fun _ _ _ h => h
theorem Kp.trans {p : Addr} {H H1 H2 : Hp} (a : Kp p H H1) (b : Kp p H1 H2) : Kp p H H2 := fun c o n h => b c o n (a c o n h)
theorem Kp.new {p q : Addr} {H : Hp} {o : HO} (h : H q = none) : Kp p H (upd H q o) := fun b u _ e => by rw [upd_ne (ne_of_none e h)]; exact e
theorem Kp.self {p : Addr} {H : Hp} {o : HO} : Kp p H (upd H p o) := fun b u n e => by rw [upd_ne n]; exact e
theorem Kp.same {p : Addr} {H H' : Hp} (h : Same H H') : Kp p H H' := fun b o _ e => h b o e
theorem Same.new {q : Addr} {H : Hp} {o : HO} (h : H q = none) : Same H (upd H q o) := fun b u e => by rw [upd_ne (ne_of_none e h)]; exact e

/-- three ints: the digits that are left, the mixing number, the count of draws -/
def PotAt (H : Hp) (p : Addr) (n : Nat) : Prop := ∃ a b c : Int, H p = some (.lst [.int a, .int b, .int c]) ∧ 0 ≤ a ∧ a < 10 ^ 400 ∧ 0 ≤ b ∧ b < 2305843009213693952 ∧ 0 ≤ c ∧ c ≤ n
theorem PotAt.mono {H : Hp} {p : Addr} {n m : Nat} (h : PotAt H p n) (l : n ≤ m) : PotAt H p m := by
  obtain ⟨a, b, c, e, h1, h2, h3, h4, h5, h6⟩ := h
  exact ⟨a, b, c, e, h1, h2, h3, h4, h5, by omega⟩
theorem PotAt.lst {H : Hp} {p : Addr} {n : Nat} (h : PotAt H p n) : ∃ xs, H p = some (.lst xs) := let ⟨_, _, _, e, _⟩ := h; ⟨_, e⟩
theorem PotAt.new {H : Hp} {p q : Addr} {n : Nat} {o : HO} (h : PotAt H p n) (hq : H q = none) : PotAt (upd H q o) p n := by
  obtain ⟨a, b, c, e, r⟩ := h
  exact ⟨a, b, c, by rw [upd_ne (ne_of_none e hq)]; exact e, r⟩
theorem PotAt.keep {H H' : Hp} {p q : Addr} {n : Nat} (h : PotAt H p n) (k : Kp q H H') (hq : p ≠ q) : PotAt H' p n := by
  obtain ⟨a, b, c, e, r⟩ := h
  exact ⟨a, b, c, k p _ hq e, r⟩
theorem PotAt.same {H H' : Hp} {p : Addr} {n : Nat} (h : PotAt H p n) (k : Same H H') : PotAt H' p n := by
  obtain ⟨a, b, c, e, r⟩ := h
  exact ⟨a, b, c, k p _ e, r⟩
theorem Kp.get {p a : Addr} {H H' : Hp} {u : HO} {xs : List V} (k : Kp p H H') (hp : H p = some (.lst xs)) (h : H a = some u) (n : ∀ ys, u ≠ .lst ys) : H' a = some u :=
  k a u (fun e => n xs (by rw [e, hp] at h; exact (Option.some.inj h).symm)) h
theorem Kp.tup {K : PySem.W.Frag} {p a : Addr} {H H' : Hp} {n : Nat} {xs : List V} (k : Kp p H H') (hp : PotAt H p n) (h : SqT K H a xs) : SqT K H' a xs := by
  obtain ⟨ys, hp⟩ := hp.lst
  rcases h with (h | ⟨o, h⟩) | h
  · exact .inl (.inl (k.get hp h (fun _ z => nomatch z)))
  · exact .inl (.inr ⟨o, k.get hp h (fun _ z => nomatch z)⟩)
  · exact .inr h
theorem Kp.seq {K : PySem.W.Frag} {p a : Addr} {H H' : Hp} {xs : List V} (k : Kp p H H') (hn : a ≠ p) (h : SqL K H a xs) : SqL K H' a xs := by
  rcases h with (h | ⟨o, h⟩) | h
  · exact .inl (.inl (k _ _ hn h))
  · exact .inl (.inr ⟨o, k _ _ hn h⟩)
  · exact .inr h
theorem Same.tup {K : PySem.W.Frag} {a : Addr} {H H' : Hp} {xs : List V} (k : Same H H') (h : SqT K H a xs) : SqT K H' a xs := by
  rcases h with (h | ⟨o, h⟩) | h
  · exact .inl (.inl (k _ _ h))
  · exact .inl (.inr ⟨o, k _ _ h⟩)
  · exact .inr h
/-- a list that is read and the pot -/
theorem ne_pot {H : Hp} {p l : Addr} {n : Nat} (h : PotAt H p n) (hl : H l = none) : l ≠ p := fun e => by
  obtain ⟨xs, e1⟩ := h.lst
  rw [e, e1] at hl
  exact nomatch hl

/-! ### the helpers' promises -/
def spPot (K : PySem.W.Frag) : Sp := fun vs H Q _ => ∃ (l : Addr) (ns : List Int) (j : Nat), vs = [.ref l, .int (j : Int)] ∧ SqL K H l (ns.map V.int) ∧ ns.length ≤ 63 ∧ j < 100 ∧ ∀ H' p, Same H H' → H p = none → PotAt H' p 0 → Q (.ref p) H'
def spTake : Sp := fun vs H Q _ => ∃ (p : Addr) (u : Int) (n : Nat), vs = [.ref p, .int u] ∧ PotAt H p n ∧ n < 1000000 ∧ 0 < u ∧ u < 2 ^ 200 ∧ ∀ H' r, Kp p H H' → PotAt H' p (n + 1) → 0 ≤ r → r < u → Q (.int r) H'
def spOf (K : PySem.W.Frag) : Sp := fun vs H Q _ => ∃ (p l : Addr) (xs : List V) (n : Nat), vs = [.ref p, .ref l] ∧ PotAt H p n ∧ n < 1000000 ∧ SqL K H l xs ∧ l ≠ p ∧ 0 < xs.length ∧ xs.length < 1000000 ∧
  ∀ H' (i : Nat) x, Kp p H H' → PotAt H' p (n + 1) → xs[i]? = some x → Q x H'
def spRow (K : PySem.W.Frag) : Sp := fun vs H Q _ => ∃ (p : Addr) (w m : Int) (n : Nat), vs = [.ref p, .int w, .int m] ∧ PotAt H p n ∧ n < 900000 ∧ 1 ≤ w ∧ w ≤ 1000000000 ∧ 0 ≤ m ∧ m ≤ 300 ∧
  ∀ H' t (ns : List Int), Kp p H H' → PotAt H' p (n + 310) → H' t = some (.tup (ns.map V.int)) → (ns.length : Int) ≤ m → (∀ x ∈ ns, 1 ≤ x ∧ x ≤ w) → Q (.ref t) H'
end SL
namespace SL
open PySem PySem.Spec PyProof.Rows L2
theorem pot_own0 (c : Int) (k : Bool) : 0 ≤ (if c < 0 then -c else c) % (10 ^ Int.toNat 60) ^ Int.toNat 5 * (if k = true then 1 else 0) := by
  have h := Int.emod_nonneg (if c < 0 then -c else c) (show ((10 ^ Int.toNat 60) ^ Int.toNat 5 : Int) ≠ 0 by decide +kernel)
  cases k
  · simp
  · simpa using h
theorem pot_ownN (c M : Int) (hM : 0 < M) (hM2 : M ≤ 10 ^ 400) (k : Bool) : 0 ≤ (if c < 0 then -c else c) % M * (if k = true then 1 else 0) ∧ (if c < 0 then -c else c) % M * (if k = true then 1 else 0) < 10 ^ 400 := by
  have h0 := Int.emod_nonneg (if c < 0 then -c else c) (show M ≠ 0 by omega)
  have h1 := Int.emod_lt_of_pos (if c < 0 then -c else c) hM
  generalize (if c < 0 then -c else c) % M = x at h0 h1
  cases k
  · simp only [Bool.false_eq_true, if_false, Int.mul_zero]
    exact ⟨by decide, by decide +kernel⟩
  · simp only [if_true, Int.mul_one]
    exact ⟨h0, Int.lt_of_lt_of_le h1 hM2⟩
theorem pot_own1 (c : Int) (k : Bool) : (if c < 0 then -c else c) % (10 ^ Int.toNat 60) ^ Int.toNat 5 * (if k = true then 1 else 0) < 10 ^ 400 := (pot_ownN c _ (by decide +kernel) (by decide +kernel) k).2
theorem prime_at (c : Int) : ∃ pr : Int, atI [V.int 2147483647, V.int 2147483629, V.int 2147483587, V.int 2147483579, V.int 2147483563] (c % 5) = some (.int pr) ∧ 2147483563 ≤ pr ∧ pr ≤ 2147483647 := by
  have h0 := Int.emod_nonneg c (show (5 : Int) ≠ 0 by decide)
  have h1 := Int.emod_lt_of_pos c (show (0 : Int) < 5 by decide)
  generalize c % 5 = r at h0 h1
  have h : r = 0 ∨ r = 1 ∨ r = 2 ∨ r = 3 ∨ r = 4 := by omega
  rcases h with rfl | rfl | rfl | rfl | rfl
  · exact ⟨_, rfl, by decide, by decide⟩
  · exact ⟨_, rfl, by decide, by decide⟩
  · exact ⟨_, rfl, by decide, by decide⟩
  · exact ⟨_, rfl, by decide, by decide⟩
  · exact ⟨_, rfl, by decide, by decide⟩
theorem take_baseN {b c k d : Int} (k0 : 0 ≤ k) (k1 : k ≤ 200000) (d0 : 0 ≤ d) (d1 : d ≤ 1000) (h0 : 0 ≤ c) (h1 : c ≤ 1000001) (b0 : 0 ≤ b) (b1 : b < 2305843009213693952) : (b + k * c * c + d).natAbs < 2 ^ 64 := by
  have a1 : k * c ≤ 200000 * 1000001 := Int.mul_le_mul k1 h1 h0 (by decide)
  have a0 : 0 ≤ k * c := Int.mul_nonneg k0 h0
  have h2 : k * c * c ≤ 200000 * 1000001 * 1000001 := Int.mul_le_mul a1 h1 h0 (by decide)
  have h3 : 0 ≤ k * c * c := Int.mul_nonneg a0 h0
  omega
theorem take_base {b c : Int} (h0 : 0 ≤ c) (h1 : c ≤ 1000001) (b0 : 0 ≤ b) (b1 : b < 2305843009213693952) : (b + 65537 * c * c + 41).natAbs < 2 ^ 64 := by
  have h2 : 65537 * c * c ≤ 65537 * 1000001 * 1000001 := by
    have a1 : 65537 * c ≤ 65537 * 1000001 := by omega
    have a2 : 65537 * c * c ≤ 65537 * 1000001 * c := Int.mul_le_mul_of_nonneg_right a1 h0
    have a3 : (65537 * 1000001 : Int) * c ≤ 65537 * 1000001 * 1000001 := Int.mul_le_mul_of_nonneg_left h1 (by decide)
    omega
  have h3 : 0 ≤ 65537 * c * c := Int.mul_nonneg (by omega) h0
  omega
end SL
namespace SL
theorem small_bit (k : Bool) : -(2 ^ 64) < (if k = true then 1 else 0 : Int) ∧ (if k = true then 1 else 0 : Int) < 2 ^ 64 := by cases k <;> decide
end SL

set_option Elab.async false
set_option linter.all false
set_option maxRecDepth 100000
/-! Own layer 3: data of any kind (dicts too): how they are read, shown, and of what type they are. -/
namespace SL
open PySem PySem.Spec PyProof.Rows L2

/-! ### lengths of what is shown, dicts too -/
mutual
def wz : PyData → Nat
  | .none => 4
  | .bool _ => 5
  | .int i => i.natAbs.log2 + 4
  | .str x => (reprText x).length
  | .list xs => wzAll xs + 3
  | .tuple xs => wzAll xs + 3
  | .dict kvs => wzKv kvs + 3
def wzAll : List PyData → Nat
  | [] => 0
  | x :: xs => wz x + 2 + wzAll xs
def wzKv : List (PyData × PyData) → Nat
  | [] => 0
  | (k, v) :: r => wz k + wz v + 4 + wzKv r
end
theorem dictText_le (ts : List Str) : (dictText ts).length ≤ (ts.map (·.length)).sum + 2 * ts.length + 3 := by
  have e : (dictText ts).length = 1 + (Str.join ", " ts).length + 1 := by
    unfold dictText
    rw [strLen_append, strLen_append]
    rfl
  by_cases h : ts = []
  · subst h
    rw [e]
    show 1 + 0 + 1 ≤ _
    omega
  · have h2 := join_length_add ts h
    have h3 : ∀ us : List Str, piled us = (us.map (·.length)).sum + 2 * us.length := by
      intro us
      induction us with
      | nil => rfl
      | cons u us ih => rw [piled_cons, ih, List.map_cons, List.sum_cons, List.length_cons]; omega
    rw [h3 ts] at h2
    omega
mutual
theorem shownz : ∀ d : PyData, d.shown.length ≤ wz d
  | .none => by simp only [PyData.shown, wz]; decide
  | .bool b => by cases b <;> (simp only [PyData.shown, wz]; decide)
  | .int i => by simp only [PyData.shown, wz]; exact int_shown_len i
  | .str x => by simp only [PyData.shown, wz]; exact Nat.le_refl _
  | .list xs => by
    simp only [PyData.shown, wz]
    have h := listText_len_le (PyData.shownAll xs)
    have h2 := shownzAll xs
    omega
  | .tuple xs => by
    simp only [PyData.shown, wz]
    have h := tupleText_len_le (PyData.shownAll xs)
    have h2 := shownzAll xs
    omega
  | .dict kvs => by
    simp only [PyData.shown, wz]
    have h := dictText_le (PyData.shownKv kvs)
    have h2 := shownzKv kvs
    omega
theorem shownzAll : ∀ ds : List PyData, ((PyData.shownAll ds).map (·.length)).sum + 2 * (PyData.shownAll ds).length ≤ wzAll ds
  | [] => by simp [PyData.shownAll, wzAll]
  | d :: ds => by
    have h1 := shownz d
    have h2 := shownzAll ds
    simp only [PyData.shownAll, wzAll, List.map_cons, List.sum_cons, List.length_cons]
    omega
theorem shownzKv : ∀ kvs : List (PyData × PyData), ((PyData.shownKv kvs).map (·.length)).sum + 2 * (PyData.shownKv kvs).length ≤ wzKv kvs
  | [] => by simp [PyData.shownKv, wzKv]
  | (k, v) :: r => by
    have h1 := shownz k
    have h2 := shownz v
    have h3 := shownzKv r
    have e : (Str.ofString ": ").length = 2 := by decide
    simp only [PyData.shownKv, wzKv, List.map_cons, List.sum_cons, List.length_cons]
    rw [strLen_append, strLen_append, e]
    omega
end

/-! ### data in the heap: no list of it is the pot -/
def keyD : Key → PyData
  | .inl i => .int i
  | .inr x => .str x
mutual
inductive Dq (K : PySem.W.Frag) (p : Addr) (H : Hp) : V → PyData → Prop
  | non : Dq K p H .non .none
  | bl (b : Bool) : Dq K p H (.bl b) (.bool b)
  | int (i : Int) : Dq K p H (.int i) (.int i)
  | str (x : Str) : Dq K p H (.str x) (.str x)
  | lst {a : Addr} {xs : List V} {ds : List PyData} : SqL K H a xs → a ≠ p → a ≠ sysModules → DqAll K p H xs ds → Dq K p H (.ref a) (.list ds)
  | tup {a : Addr} {xs : List V} {ds : List PyData} : SqT K H a xs → DqAll K p H xs ds → Dq K p H (.ref a) (.tuple ds)
  | dict {a : Addr} {kvs : List (Key × V)} {ds : List PyData} : H a = some (.dK kvs) → DqAll K p H (kvs.map (·.2)) ds → Dq K p H (.ref a) (.dict ((kvs.map fun kv => keyD kv.1).zip ds))
inductive DqAll (K : PySem.W.Frag) (p : Addr) (H : Hp) : List V → List PyData → Prop
  | nil : DqAll K p H [] []
  | cons {v : V} {vs : List V} {d : PyData} {ds : List PyData} : Dq K p H v d → DqAll K p H vs ds → DqAll K p H (v :: vs) (d :: ds)
end
theorem DqAll.length {K : PySem.W.Frag} {p : Addr} {H : Hp} : ∀ {vs : List V} {ds : List PyData}, DqAll K p H vs ds → vs.length = ds.length
  | [], [], _ => rfl
  | _ :: _, _ :: _, .cons _ h => by rw [List.length_cons, List.length_cons, DqAll.length h]
theorem DqAll.get {K : PySem.W.Frag} {p : Addr} {H : Hp} : ∀ {vs : List V} {ds : List PyData} {i : Nat} {v : V}, DqAll K p H vs ds → vs[i]? = some v → ∃ d, ds[i]? = some d ∧ Dq K p H v d
  | _ :: _, _ :: _, 0, _, .cons h _, e => ⟨_, rfl, by cases (Option.some.inj e); exact h⟩
  | _ :: _, _ :: _, i + 1, _, .cons _ h, e => DqAll.get (i := i) h e
theorem DqAll.append {K : PySem.W.Frag} {p : Addr} {H : Hp} : ∀ {vs ws : List V} {ds es : List PyData}, DqAll K p H vs ds → DqAll K p H ws es → DqAll K p H (vs ++ ws) (ds ++ es)
  | [], _, [], _, _, h => h
  | _ :: _, _, _ :: _, _, .cons a b, h => .cons a (DqAll.append b h)
theorem DqAll.ints {K : PySem.W.Frag} {p : Addr} {H : Hp} : ∀ ns : List Int, DqAll K p H (ns.map V.int) (ns.map PyData.int)
  | [] => .nil
  | n :: ns => .cons (.int n) (DqAll.ints ns)
theorem DqAll.take {K : PySem.W.Frag} {p : Addr} {H : Hp} : ∀ {vs : List V} {ds : List PyData} (i : Nat), DqAll K p H vs ds → DqAll K p H (vs.take i) (ds.take i)
  | _, _, 0, _ => .nil
  | [], [], _ + 1, _ => .nil
  | _ :: _, _ :: _, i + 1, .cons a b => .cons a (DqAll.take i b)
theorem DqAll.drop {K : PySem.W.Frag} {p : Addr} {H : Hp} : ∀ {vs : List V} {ds : List PyData} (i : Nat), DqAll K p H vs ds → DqAll K p H (vs.drop i) (ds.drop i)
  | _, _, 0, h => h
  | [], [], _ + 1, h => h
  | _ :: _, _ :: _, i + 1, .cons _ b => DqAll.drop i b

/-- a change that leaves alone what the data lean on -/
structure Leaves (p : Addr) (H H' : Hp) : Prop where
  lst : ∀ {K : PySem.W.Frag} {a : Addr} {xs : List V}, a ≠ p → SqL K H a xs → SqL K H' a xs
  tup : ∀ {K : PySem.W.Frag} {a : Addr} {xs : List V}, SqT K H a xs → SqT K H' a xs
  dic : ∀ {a : Addr} {kvs : List (Key × V)}, H a = some (.dK kvs) → H' a = some (.dK kvs)
theorem Kp.leaves {p : Addr} {H H' : Hp} {n : Nat} (k : Kp p H H') (hp : PotAt H p n) : Leaves p H H' :=
  ⟨fun n h => k.seq n h, fun h => k.tup hp h, fun h => let ⟨_, e⟩ := hp.lst; k.get e h (fun _ z => nomatch z)⟩
theorem Leaves.same {p : Addr} {H H' : Hp} (k : Same H H') : Leaves p H H' := ⟨fun _ h => k.seq h, fun h => Same.tup k h, fun h => k _ _ h⟩
mutual
theorem Dq.keep {K : PySem.W.Frag} {p : Addr} {H H' : Hp} (k : Leaves p H H') : ∀ (d : PyData) {v : V}, Dq K p H v d → Dq K p H' v d
  | .none, _, h => by cases h; exact .non
  | .bool _, _, h => by cases h; exact .bl _
  | .int _, _, h => by cases h; exact .int _
  | .str _, _, h => by cases h; exact .str _
  | .list ds, _, h => by
    cases h with
    | lst hs hn hy ha => exact .lst (k.lst hn hs) hn hy (DqAll.keep k ds ha)
  | .tuple ds, _, h => by
    cases h with
    | tup hs ha => exact .tup (k.tup hs) (DqAll.keep k ds ha)
  | .dict kvs, _, h => by
    generalize hd : PyData.dict kvs = d at h
    cases h with
    | @dict a kws ds e ha =>
      cases hd
      have hl := ha.length
      rw [List.length_map] at hl
      have e2 : ((kws.map fun kv => keyD kv.1).zip ds).map (·.2) = ds := List.map_snd_zip (by rw [List.length_map]; omega)
      refine .dict (k.dic e) ?_
      rw [← e2]
      rw [← e2] at ha
      exact DqKv.keep k _ ha
    | non => cases hd
    | bl => cases hd
    | int => cases hd
    | str => cases hd
    | lst => cases hd
    | tup => cases hd
theorem DqAll.keep {K : PySem.W.Frag} {p : Addr} {H H' : Hp} (k : Leaves p H H') : ∀ (ds : List PyData) {vs : List V}, DqAll K p H vs ds → DqAll K p H' vs ds
  | [], _, h => by cases h; exact .nil
  | d :: ds, _, h => by
    cases h with
    | cons a b => exact .cons (Dq.keep k d a) (DqAll.keep k ds b)
theorem DqKv.keep {K : PySem.W.Frag} {p : Addr} {H H' : Hp} (k : Leaves p H H') : ∀ (kvs : List (PyData × PyData)) {vs : List V}, DqAll K p H vs (kvs.map (·.2)) → DqAll K p H' vs (kvs.map (·.2))
  | [], _, h => by cases h; exact .nil
  | (_, d) :: r, _, h => by
    cases h with
    | cons a b => exact .cons (Dq.keep k d a) (DqKv.keep k r b)
end

/-! ### how the data are read from the heap -/
theorem keys_read {P : Program} {w : World} {h : Heap} : ∀ {kvs : List (Key × V)} {vs : List (Key × Value)} {es : List DictEntry}, KV kvs vs → Pairs (mixKind P w) es vs →
    ReadsAll h (es.map (·.key)) (kvs.map fun kv => keyD kv.1) [] ∧ Vals (kvs.map (·.2)) (es.map (·.val))
  | _, _, _, .nil, .nil => ⟨.nil, .nil⟩
  | (k, v) :: r, (k2, u) :: r2, _, .cons ⟨e1, e2⟩ t, .cons h1 h2 h3 => by
    obtain ⟨a, b⟩ := keys_read (h := h) t h3
    have e1 : k = k2 := e1
    subst e1
    refine ⟨?_, ?_⟩
    · show ReadsAll h (_ :: _) (_ :: _) []
      refine ReadsAll.cons (as := []) (bs := []) ?_ a
      rcases keyIs_shape h1 with ⟨i, t, ek, ev⟩ | ⟨x, t, ek, ev⟩
      · have ek : k = Sum.inl i := ek
        dsimp only
        rw [ek, ev]
        exact Reads.int i t
      · have ek : k = Sum.inr x := ek
        dsimp only
        rw [ek, ev]
        exact Reads.str x t
    · show Vals (_ :: _) (_ :: _)
      refine .cons ?_ b
      dsimp only
      rw [h2]
      exact e2
section
variable {X : Cx} {pins : List (Addr × Obj)} {σ : L2.St} {H : Hp} {s : Shared} {p : Addr}
mutual
theorem Dq.reads (I : Inv X pins σ H s) : ∀ (d : PyData) {v : V} {u : Value}, Dq X.K p H v d → RelV v u → ∃ as, Reads s.heap u d as ∧ sysModules ∉ as
  | .none, _, _, h, r => by
    cases h; cases r
    exact ⟨_, Reads.none, fun z => nomatch z⟩
  | .bool b, _, _, h, r => by
    cases h; cases r
    exact ⟨_, Reads.bool b, fun z => nomatch z⟩
  | .int i, _, _, h, r => by
    cases h
    obtain ⟨t, rfl⟩ := r
    exact ⟨_, Reads.int i t, fun z => nomatch z⟩
  | .str x, _, _, h, r => by
    cases h
    obtain ⟨t, rfl⟩ := r
    exact ⟨_, Reads.str x t, fun z => nomatch z⟩
  | .list ds, _, _, h, r => by
    cases h with
    | lst hs hn hy ha =>
      cases r
      obtain ⟨its, rv, ⟨o, n, ho, hc, _, hd⟩, _⟩ := I.list hs
      obtain ⟨as, hr, hz⟩ := DqAll.reads I ds ha rv
      refine ⟨_, Reads.list ho hc hd hr, fun z => ?_⟩
      rcases List.mem_cons.mp z with z | z
      · exact hy z.symm
      · exact hz z
  | .tuple ds, _, _, h, r => by
    cases h with
    | tup hs ha =>
      cases r
      obtain ⟨its, rv, ⟨o, ho, hc, n, hd⟩, _⟩ := I.tuple hs
      obtain ⟨as, hr, hz⟩ := DqAll.reads I ds ha rv
      exact ⟨_, Reads.tuple ho hc hd hr, hz⟩
  | .dict kvs, _, _, h, r => by
    generalize hd : PyData.dict kvs = d at h
    cases h with
    | @dict a kws ds e ha =>
      cases hd
      cases r
      obtain ⟨_, hsm, vs, rel, o, es, ep, ho, hex, hda, _, pr, _⟩ := dk_of I.hok e
      obtain ⟨hk, hv⟩ := keys_read (h := s.heap) rel pr
      have hl := ha.length
      rw [List.length_map] at hl
      have e1 : ((kws.map fun kv => keyD kv.1).zip ds).map (·.1) = kws.map fun kv => keyD kv.1 := List.map_fst_zip (by rw [List.length_map]; omega)
      have e2 : ((kws.map fun kv => keyD kv.1).zip ds).map (·.2) = ds := List.map_snd_zip (by rw [List.length_map]; omega)
      rw [← e2] at ha
      obtain ⟨as, hr, hz⟩ := DqKv.reads I _ ha hv
      rw [← e1] at hk
      refine ⟨_, Reads.dict ho hex.1 hda hk hr, fun z => ?_⟩
      have z : sysModules = a ∨ sysModules ∈ as := by simpa using z
      rcases z with z | z
      · rw [← z] at hsm
        simp at hsm
      · exact hz z
    | non => cases hd
    | bl => cases hd
    | int => cases hd
    | str => cases hd
    | lst => cases hd
    | tup => cases hd
theorem DqAll.reads (I : Inv X pins σ H s) : ∀ (ds : List PyData) {vs : List V} {us : List Value}, DqAll X.K p H vs ds → Vals vs us → ∃ as, ReadsAll s.heap us ds as ∧ sysModules ∉ as
  | [], _, _, h, r => by
    cases h; cases r
    exact ⟨_, ReadsAll.nil, fun z => nomatch z⟩
  | d :: ds, _, _, h, r => by
    cases h with
    | cons h1 h2 =>
      cases r with
      | cons r1 r2 =>
        obtain ⟨as, q1, z1⟩ := Dq.reads I d h1 r1
        obtain ⟨bs, q2, z2⟩ := DqAll.reads I ds h2 r2
        exact ⟨_, ReadsAll.cons q1 q2, fun z => (List.mem_append.mp z).elim z1 z2⟩
theorem DqKv.reads (I : Inv X pins σ H s) : ∀ (kvs : List (PyData × PyData)) {vs : List V} {us : List Value}, DqAll X.K p H vs (kvs.map (·.2)) → Vals vs us → ∃ as, ReadsAll s.heap us (kvs.map (·.2)) as ∧ sysModules ∉ as
  | [], _, _, h, r => by
    cases h; cases r
    exact ⟨_, ReadsAll.nil, fun z => nomatch z⟩
  | (_, d) :: ds, _, _, h, r => by
    cases h with
    | cons h1 h2 =>
      cases r with
      | cons r1 r2 =>
        obtain ⟨as, q1, z1⟩ := Dq.reads I d h1 r1
        obtain ⟨bs, q2, z2⟩ := DqKv.reads I ds h2 r2
        exact ⟨_, ReadsAll.cons q1 q2, fun z => (List.mem_append.mp z).elim z1 z2⟩
end
end
/-! ### types, repr, lists that are made -/
def tyName : PyData → String
  | .none => "NoneType"
  | .bool _ => "bool"
  | .int _ => "int"
  | .str _ => "str"
  | .list _ => "list"
  | .tuple _ => "tuple"
  | .dict _ => "dict"
theorem Dq.ty {K : PySem.W.Frag} {p : Addr} {H : Hp} {v : V} {d : PyData} (h : Dq K p H v d) : TyX K H v (.type (tyName d)) := by
  cases h with
  | non => exact .base .non
  | bl b => exact .base (.bl b)
  | int i => exact .base (.int i)
  | str x => exact .base (.str x)
  | lst hs _ _ _ =>
    rcases hs with (h | ⟨o, h⟩) | ⟨o, _, _, h, hc, _⟩
    · exact .base (.lst h)
    · exact .base (.frz h)
    · exact .kList h hc
  | tup hs _ =>
    rcases hs with (h | ⟨o, h⟩) | ⟨o, _, _, h, hc, _⟩
    · exact .base (.tup h)
    · exact .fTuple h
    · exact .kTuple h hc
  | dict h _ => exact .base (.dK h)
section
variable {X : Cx}
def rReprQ (K : PySem.W.Frag) : List V → Hp → VK → Prop := fun vs H Q => ∃ (p : Addr) (v : V) (d : PyData), vs = [v] ∧ Dq K p H v d ∧ d.showable = true ∧ d.depth ≤ 50 ∧ wz d ≤ 1000000 ∧ Q (.str d.shown) H
theorem cr_reprQ (hg : X.A.guards = some []) (hu : X.A.units + 64 < cLine) : CallR X (.builtin "repr") (rReprQ X.K) := by
  intro pins s σ H vs us Q I r h
  obtain ⟨p, v, d, rfl, hd, hs, hdep, hwt, q⟩ := h
  obtain ⟨u, rfl, ru⟩ := vals1 r
  have hsz : d.shown.length ≤ sizeLine := by
    have h1 := shownz d
    rw [sizeLine_eq]
    omega
  obtain ⟨as, rd, hz⟩ := Dq.reads I d hd ru
  cases rd with
  | none => exact PySem.P.repr_of_none ⟨.str _, H, I.tok _, ⟨_, rfl⟩, by simpa only [PyData.shown] using q⟩
  | bool b =>
    refine PySem.P.repr_of_bool ⟨.str _, H, I.tok _, ⟨_, rfl⟩, ?_⟩
    cases b <;> simpa only [PyData.shown] using q
  | int i t => exact PySem.P.repr_of_int (by simpa [PyData.showable] using hs) ⟨.str _, H, I.tok _, ⟨_, rfl⟩, by simpa only [PyData.shown] using q⟩
  | str x t => exact PySem.P.repr_of_str ⟨.str _, H, I.tok _, ⟨_, rfl⟩, by simpa only [PyData.shown] using q⟩ (by simpa only [PyData.shown] using hsz)
  | list h1 h2 h3 h4 => exact repr_of_reads' (.list h1 h2 h3 h4) hs (fun _ => hz) hg (by omega) (fun _ _ e => e) (fun h' u tk hk => ⟨.str _, H, I.kept hk, ⟨_, rfl⟩, q⟩) hsz
  | tuple h1 h2 h3 h4 => exact repr_of_reads' (.tuple h1 h2 h3 h4) hs (fun _ => hz) hg (by omega) (fun _ _ e => e) (fun h' u tk hk => ⟨.str _, H, I.kept hk, ⟨_, rfl⟩, q⟩) hsz
  | dict h1 h2 h3 h4 h5 => exact repr_of_reads' (.dict h1 h2 h3 h4 h5) hs (fun _ => hz) hg (by omega) (fun _ _ e => e) (fun h' u tk hk => ⟨.str _, H, I.kept hk, ⟨_, rfl⟩, q⟩) hsz
/-- str of a tuple, a list -/
def rStrQ (K : PySem.W.Frag) : List V → Hp → VK → Prop := fun vs H Q => ∃ (p a : Addr) (d : PyData), vs = [.ref a] ∧ Dq K p H (.ref a) d ∧ d.showable = true ∧ d.depth ≤ 50 ∧ wz d ≤ 1000000 ∧ Q (.str d.shown) H
theorem cr_strQ (hg : X.A.guards = some []) (hu : X.A.units + 64 < cLine) : CallR X (.type "str") (rStrQ X.K) := by
  intro pins s σ H vs us Q I r h
  obtain ⟨p, a, d, rfl, hd, hs, hdep, hwt, q⟩ := h
  obtain ⟨u, rfl, ru⟩ := vals1 r
  obtain rfl : u = Value.ref a := ru
  have hsz : d.shown.length ≤ sizeLine := by
    have h1 := shownz d
    rw [sizeLine_eq]
    omega
  obtain ⟨as, rd, hz⟩ := Dq.reads I d hd (show RelV (.ref a) (.ref a) from rfl)
  exact str_of_reads rd hs (fun _ => hz) hg (by omega) (fun _ _ e => e) (fun h' u tk hk => ⟨.str _, H, I.kept hk, ⟨_, rfl⟩, q⟩) hsz
/-- a list display, its place told to be no old one -/
def tLstS (t : TA) : TE := fun σ H Q => t σ H fun xs H1 => xs.length ≤ sizeLine ∧ ∀ p, H1 p = none → p ≠ sysModules → Q (.ref p) (upd H1 p (.lst xs))
theorem pe_lstS {es : List Expr} {t : TA} {pos : Pos} (h : PA X es t) : PE X (.List es pos) (tLstS t) := by
  refine ⟨fun pins s σ H Q I hq => wpAny_List_spliced (thn (h.run pos pins s σ H _ I hq) fun us s1 ⟨xs, H1, I1, r, z, q⟩ => ?_)⟩
  have hf : H1 s1.heap.objs.size = none := I1.hok.fresh (Nat.le_refl _)
  have hz : us.length ≤ sizeLine := by rw [← r.length]; exact z
  refine ⟨hz, .ref s1.heap.objs.size, upd H1 s1.heap.objs.size (.lst xs), ?_, rfl, q _ hf (Nat.ne_of_gt I1.big)⟩
  exact I1.laid (t' := s1.toks) (fun b u e => Heap.get?_push_of_some _ e) (Nat.le_refl _) ⟨z, us, 0, r, Heap.get?_push_size _ rfl⟩
end
end SL
namespace SL
open PySem PySem.Spec PyProof.Rows L2
/-! ### what a def carries along: the pot, the data that it holds -/
structure Cr (K : PySem.W.Frag) (p : Addr) (H0 H : Hp) (n : Nat) (vs : List V) (ds : List PyData) : Prop where
  k : Kp p H0 H
  pot : PotAt H p n
  all : DqAll K p H vs ds
section
variable {K : PySem.W.Frag} {p q : Addr} {H0 H H' : Hp} {n m : Nat} {vs ys : List V} {ds es : List PyData} {v : V} {d : PyData}
theorem Cr.start (hp : PotAt H p n) : Cr K p H H n [] [] := ⟨Kp.refl, hp, .nil⟩
theorem Cr.same (c : Cr K p H0 H n vs ds) (k : Same H H') : Cr K p H0 H' n vs ds := ⟨c.k.trans (.same k), c.pot.same k, c.all.keep (.same k) _⟩
theorem Cr.draw (c : Cr K p H0 H n vs ds) (k : Kp p H H') (hp : PotAt H' p m) : Cr K p H0 H' m vs ds := ⟨c.k.trans k, hp, c.all.keep (k.leaves c.pot) _⟩
theorem Cr.new (c : Cr K p H0 H n vs ds) {o : HO} (hq : H q = none) : Cr K p H0 (upd H q o) n vs ds := c.same (Same.new hq)
theorem Cr.push (c : Cr K p H0 H n vs ds) (h : Dq K p H v d) : Cr K p H0 H n (v :: vs) (d :: ds) := ⟨c.k, c.pot, .cons h c.all⟩
theorem Cr.tup (c : Cr K p H0 H n vs ds) (hq : H q = none) (h : DqAll K p H ys es) : Cr K p H0 (upd H q (.tup ys)) n (.ref q :: vs) (.tuple es :: ds) :=
  (c.new hq).push (.tup (.of upd_same) (h.keep (.same (Same.new hq)) _))
theorem Cr.lst (c : Cr K p H0 H n vs ds) (hq : H q = none) (y : q ≠ sysModules) (h : DqAll K p H ys es) : Cr K p H0 (upd H q (.lst ys)) n (.ref q :: vs) (.list es :: ds) :=
  (c.new hq).push (.lst (.of upd_same) (ne_pot c.pot hq) y (h.keep (.same (Same.new hq)) _))
theorem Cr.dic0 (c : Cr K p H0 H n vs ds) (hq : H q = none) : Cr K p H0 (upd H q (.dK [])) n (.ref q :: vs) (.dict [] :: ds) :=
  (c.new hq).push (.dict (kvs := []) (ds := []) upd_same .nil)
theorem Cr.dic1 {x : Str} (c : Cr K p H0 H n vs ds) (hq : H q = none) (h : Dq K p H v d) : Cr K p H0 (upd H q (.dK [(Sum.inr x, v)])) n (.ref q :: vs) (.dict [(.str x, d)] :: ds) :=
  (c.new hq).push (.dict (kvs := [(Sum.inr x, v)]) (ds := [d]) upd_same (.cons (h.keep (.same (Same.new hq)) _) .nil))
theorem Cr.drop (c : Cr K p H0 H n (v :: vs) (d :: ds)) : Cr K p H0 H n vs ds := ⟨c.k, c.pot, by cases c.all with | cons _ h => exact h⟩
theorem Cr.head (c : Cr K p H0 H n (v :: vs) (d :: ds)) : Dq K p H v d := by cases c.all with | cons h _ => exact h
theorem Cr.bare (c : Cr K p H0 H n vs ds) : Cr K p H0 H n [] [] := ⟨c.k, c.pot, .nil⟩
end
/-- data that is easily shown -/
def Small (b k : Nat) (d : PyData) : Prop := d.showable = true ∧ d.depth ≤ k ∧ wz d ≤ b
def smallB (b k : Nat) (d : PyData) : Bool := d.showable && decide (d.depth ≤ k) && decide (wz d ≤ b)
theorem small_of {b k : Nat} {d : PyData} (h : smallB b k d = true) : Small b k d := by
  simp only [smallB, Bool.and_eq_true, decide_eq_true_eq] at h
  exact ⟨h.1.1, h.1.2, h.2⟩
theorem small_all {b k : Nat} {ds : List PyData} (h : ds.all (smallB b k) = true) {i : Nat} {d : PyData} (e : ds[i]? = some d) : Small b k d :=
  small_of (List.all_eq_true.mp h d (List.mem_of_getElem? e))
theorem Small.mono {b k b' k' : Nat} {d : PyData} (h : Small b k d) (hb : b ≤ b') (hk : k ≤ k') : Small b' k' d := ⟨h.1, Nat.le_trans h.2.1 hk, Nat.le_trans h.2.2 hb⟩
theorem Small.tup1 {b k : Nat} {d : PyData} (h : Small b k d) : Small (b + 20) (k + 1) (.tuple [d]) := by
  obtain ⟨h1, h2, h3⟩ := h
  refine ⟨by simp [PyData.showable, PyData.showableAll, h1], ?_, ?_⟩
  · simp only [PyData.depth, PyData.depthAll]; omega
  · simp only [wz, wzAll]; omega
theorem Small.lst1 {b k : Nat} {d : PyData} (h : Small b k d) : Small (b + 20) (k + 1) (.list [d]) := by
  obtain ⟨h1, h2, h3⟩ := h
  refine ⟨by simp [PyData.showable, PyData.showableAll, h1], ?_, ?_⟩
  · simp only [PyData.depth, PyData.depthAll]; omega
  · simp only [wz, wzAll]; omega
theorem Small.dic1 {b k : Nat} {d : PyData} (h : Small b k d) : Small (b + 20) (k + 1) (.dict [(.str "a", d)]) := by
  obtain ⟨h1, h2, h3⟩ := h
  have e : (reprText "a").length = 3 := by decide +kernel
  refine ⟨by simp [PyData.showable, PyData.showableKv, h1], ?_, ?_⟩
  · simp only [PyData.depth, PyData.depthKv]; omega
  · simp only [wz, wzKv, e]; omega
def spOdd (K : PySem.W.Frag) : Sp := fun vs H Q _ => ∃ (p : Addr) (n : Nat), vs = [.ref p] ∧ PotAt H p n ∧ n < 900000 ∧ ∀ H' v d, Kp p H H' → PotAt H' p (n + 11) → Dq K p H' v d → Small 300 12 d → Q v H'
end SL
namespace SL
open PySem PySem.Spec PyProof.Rows L2
def isIntB : PyData → Bool
  | .int _ => true
  | .bool _ => true
  | _ => false
def isBoolB : PyData → Bool
  | .bool _ => true
  | _ => false
def isTupB : PyData → Bool
  | .tuple _ => true
  | _ => false
def isWholeD : PyData → Bool
  | .int _ => true
  | _ => false
def inRange (d : PyData) (lo hi : Int) : Bool := match d with
  | .int i => decide (lo ≤ i) && decide (i ≤ hi)
  | _ => false
def isTextD (w : Int) (d : PyData) : Bool := match d with
  | .tuple xs => decide (xs.length ≤ 300) && xs.all fun x => inRange x 1 w
  | _ => false
theorem kit_int {K : PySem.W.Frag} : ∀ d : PyData, PySem.W.kitOne K (.type (tyName d)) (.type "int") = some (isIntB d)
  | .none => kit_ty (show kitB "NoneType" "int" = some false by decide +kernel)
  | .bool _ => kit_ty (show kitB "bool" "int" = some true by decide +kernel)
  | .int _ => kit_ty (show kitB "int" "int" = some true by decide +kernel)
  | .str _ => kit_ty (show kitB "str" "int" = some false by decide +kernel)
  | .list _ => kit_ty (show kitB "list" "int" = some false by decide +kernel)
  | .tuple _ => kit_ty (show kitB "tuple" "int" = some false by decide +kernel)
  | .dict _ => kit_ty (show kitB "dict" "int" = some false by decide +kernel)
theorem kit_bool {K : PySem.W.Frag} : ∀ d : PyData, PySem.W.kitOne K (.type (tyName d)) (.type "bool") = some (isBoolB d)
  | .none => kit_ty (show kitB "NoneType" "bool" = some false by decide +kernel)
  | .bool _ => kit_ty (show kitB "bool" "bool" = some true by decide +kernel)
  | .int _ => kit_ty (show kitB "int" "bool" = some false by decide +kernel)
  | .str _ => kit_ty (show kitB "str" "bool" = some false by decide +kernel)
  | .list _ => kit_ty (show kitB "list" "bool" = some false by decide +kernel)
  | .tuple _ => kit_ty (show kitB "tuple" "bool" = some false by decide +kernel)
  | .dict _ => kit_ty (show kitB "dict" "bool" = some false by decide +kernel)
theorem kit_tup {K : PySem.W.Frag} : ∀ d : PyData, PySem.W.kitOne K (.type (tyName d)) (.type "tuple") = some (isTupB d)
  | .none => kit_ty (show kitB "NoneType" "tuple" = some false by decide +kernel)
  | .bool _ => kit_ty (show kitB "bool" "tuple" = some false by decide +kernel)
  | .int _ => kit_ty (show kitB "int" "tuple" = some false by decide +kernel)
  | .str _ => kit_ty (show kitB "str" "tuple" = some false by decide +kernel)
  | .list _ => kit_ty (show kitB "list" "tuple" = some false by decide +kernel)
  | .tuple _ => kit_ty (show kitB "tuple" "tuple" = some true by decide +kernel)
  | .dict _ => kit_ty (show kitB "dict" "tuple" = some false by decide +kernel)
def spWhole (K : PySem.W.Frag) : Sp := fun vs H Q _ => ∃ (p : Addr) (v : V) (d : PyData), vs = [v] ∧ Dq K p H v d ∧ Q (.bl (isWholeD d)) H
def spIsWidth (K : PySem.W.Frag) : Sp := fun vs H Q _ => ∃ (p : Addr) (v : V) (d : PyData), vs = [v] ∧ Dq K p H v d ∧ Q (.bl (inRange d 1 1000000000)) H
def spIsWord (K : PySem.W.Frag) : Sp := fun vs H Q _ => ∃ (p : Addr) (w : Int) (v : V) (d : PyData), vs = [.int w, v] ∧ Dq K p H v d ∧ Q (.bl (inRange d 1 w)) H
def spIsText (K : PySem.W.Frag) : Sp := fun vs H Q _ => ∃ (p : Addr) (w : Int) (v : V) (d : PyData), vs = [.int w, v] ∧ Dq K p H v d ∧ ∀ H', Same H H' → Q (.bl (isTextD w d)) H'
def spIsInt (K : PySem.W.Frag) : Sp := fun vs H Q _ => ∃ (p : Addr) (v : V) (d : PyData) (lo hi : Int), vs = [v, .int lo, .int hi] ∧ Dq K p H v d ∧ Q (.bl (inRange d lo hi)) H
def spIsRow (K : PySem.W.Frag) : Sp := fun vs H Q _ => ∃ (p : Addr) (w : Int) (v : V) (d : PyData), vs = [.int w, v] ∧ Dq K p H v d ∧ ∀ H', Same H H' → Q (.bl (isTextD w d)) H'
theorem Dq.intv {K : PySem.W.Frag} {p : Addr} {H : Hp} {v : V} {i : Int} (h : Dq K p H v (.int i)) : v = .int i := by cases h; rfl
theorem Dq.tupv {K : PySem.W.Frag} {p : Addr} {H : Hp} {v : V} {ds : List PyData} (h : Dq K p H v (.tuple ds)) : ∃ a xs, v = .ref a ∧ SqT K H a xs ∧ DqAll K p H xs ds := by
  cases h with
  | tup a b => exact ⟨_, _, rfl, a, b⟩
end SL

set_option Elab.async false
set_option linter.all false
set_option maxRecDepth 100000
set_option maxHeartbeats 1000000
/-! Own layer 4: tuples joined, cut, repeated, told by what comes out. -/
namespace SL
open PySem PySem.Spec PyProof.Rows L2
section
variable {X : Cx}
/-- list(x) of a list or tuple, its place told to be no old one -/
def rListS (K : PySem.W.Frag) : List V → Hp → VK → Prop := fun xs H Q => ∃ p ys, xs = [.ref p] ∧ (SqL K H p ys ∨ SqT K H p ys) ∧ ∀ l, H l = none → l ≠ sysModules → Q (.ref l) (upd H l (.lst ys))
theorem call_listS : CallR X (.type "list") (rListS X.K) := by
  intro pins s σ H vs us Q I r ⟨p, ys, ev, hq, q⟩
  subst ev
  obtain ⟨u, rfl, rx⟩ := vals1 r
  obtain rfl : u = Value.ref p := rx
  have big : s.heap.objs.size ≠ sysModules := Nat.ne_of_gt I.big
  have seen : ∃ (T : String) (o : Obj) (its : List Value) (n : Nat), (T = "list" ∨ T = "tuple") ∧ s.heap.get? p = some o ∧ o.cls = .type T ∧ o.data = .seq its.toArray n ∧ Vals ys its ∧ ys.length ≤ sizeLine := by
    cases hq with
    | inl h => obtain ⟨its, rv, ⟨o, n, e1, e2, _, e3⟩, z⟩ := I.list h; exact ⟨"list", o, its, n, .inl rfl, e1, e2, e3, rv, z⟩
    | inr h => obtain ⟨its, rv, ⟨o, e1, e2, n, e3⟩, z⟩ := I.tuple h; exact ⟨"tuple", o, its, n, .inr rfl, e1, e2, e3, rv, z⟩
  obtain ⟨T, o, its, n, hT, e1, e2, e3, rv, z⟩ := seen
  have zl := rv.length
  refine call_list_seq p hT e1 e2 e3 (fun h' c' kp e => ?_) (by rw [List.size_toArray]; omega)
  exact ⟨.ref s.heap.objs.size, upd H s.heap.objs.size (.lst ys), I.laid (t' := s.toks) kp (Nat.le_refl _) ⟨z, its, c', rv, e⟩, rfl, q _ (I.hok.fresh (Nat.le_refl _)) big⟩
/-- t + u of tuples -/
def rCatB (K : PySem.W.Frag) : R2 := fun x y H Q => ∃ a b xs ys, x = .ref a ∧ y = .ref b ∧ SqT K H a xs ∧ SqT K H b ys ∧ xs.length + ys.length ≤ sizeLine ∧ ∀ H' c, Same H H' → SqT K H' c (xs ++ ys) → Q (.ref c) H'
theorem op_catB : OpR X (binaryOp .Add) (rCatB X.K) := by
  intro pins s σ H x y v u Q I rx ry ⟨a, b, xs, ys, ex, ey, ha, hb, hz, q⟩
  refine op_catA pins s σ H x y v u Q I rx ry ⟨a, b, xs, ys, ex, ey, ha, hb, hz, fun e => ?_, fun _ e => ?_, fun _ _ p hp => q _ p (Same.new hp) (.of upd_same)⟩
  · refine q H b (Same.refl H) ?_
    rw [e]
    exact hb
  · refine q H a (Same.refl H) ?_
    rw [e, List.append_nil]
    exact ha
/-- t[lo:hi] -/
def rSlB (K : PySem.W.Frag) : V → Option Int → Option Int → Hp → VK → Prop := fun x lo hi H Q => ∃ a xs, x = .ref a ∧ SqT K H a xs ∧ ∀ H' c, Same H H' → SqT K H' c (cutV xs lo hi) → Q (.ref c) H'
theorem sl_tupB : SlR X (rSlB X.K) := by
  intro pins s σ H x v vl vu lo hi sl Q I rx hs pl pu ⟨a, xs, ex, hx, q⟩
  refine sl_tupA pins s σ H x v vl vu lo hi sl Q I rx hs pl pu ⟨a, xs, ex, hx, fun w => ?_, fun _ p hp => q _ p (Same.new hp) (.of upd_same)⟩
  refine q H a (Same.refl H) ?_
  have e : cutV xs lo hi = xs := by
    unfold cutV
    rw [w.1, w.2, List.drop_zero, Nat.sub_zero, List.take_length]
  rw [e]
  exact hx
/-- (x,) * k -/
def rRepB (K : PySem.W.Frag) : R2 := fun x y H Q => ∃ l k z, x = .ref l ∧ y = .int k ∧ SqT K H l [z] ∧ 2 ≤ k ∧ k ≤ 1000 ∧ ∀ H' c, Same H H' → SqT K H' c (List.replicate k.toNat z) → Q (.ref c) H'
theorem op_repB : OpR X (binaryOp .Mult) (rRepB X.K) := by
  intro pins s σ H x y v u Q I rx ry ⟨l, k, z, ex, ey, hl, h2, h3, q⟩
  refine op_repT pins s σ H x y v u Q I rx ry ⟨l, k, [z], ex, ey, hl, by simp, h2, h3, by simp, fun p hp => q _ p (Same.new hp) ?_⟩
  have e : (List.replicate k.toNat [z]).flatten = List.replicate k.toNat z := by
    induction k.toNat with
    | zero => rfl
    | succ n ih => rw [List.replicate_succ, List.flatten_cons, ih, List.replicate_succ]; rfl
  rw [e]
  exact .of upd_same
end
theorem cut_to (xs : List V) (k : Nat) : cutV xs none (some (k : Int)) = xs.take k := by
  unfold cutV
  rw [HT.sIx_none, HT.sIx_nat, List.drop_zero, Nat.sub_zero]
  by_cases h : k ≤ xs.length
  · rw [Nat.min_eq_left h]
  · rw [Nat.min_eq_right (by omega), List.take_length, List.take_of_length_le (by omega)]
theorem cut_from (xs : List V) (k : Nat) : cutV xs (some (k : Int)) none = xs.drop k := by
  unfold cutV
  rw [HT.sIx_none, HT.sIx_nat]
  by_cases h : k ≤ xs.length
  · rw [Nat.min_eq_left h, List.take_of_length_le (by rw [List.length_drop]; omega)]
  · rw [Nat.min_eq_right (by omega), List.drop_of_length_le (Nat.le_refl _), List.drop_of_length_le (by omega), List.take_nil]
theorem DqAll.rep {K : PySem.W.Frag} {p : Addr} {H : Hp} {v : V} {d : PyData} (h : Dq K p H v d) : ∀ n : Nat, DqAll K p H (List.replicate n v) (List.replicate n d)
  | 0 => .nil
  | n + 1 => .cons h (DqAll.rep h n)
/-! ### small data made of small data -/
theorem showAll {b k : Nat} : ∀ {ds : List PyData}, (∀ d ∈ ds, Small b k d) → PyData.showableAll ds = true ∧ PyData.depthAll ds ≤ k ∧ wzAll ds ≤ ds.length * (b + 2)
  | [], _ => ⟨rfl, Nat.zero_le _, Nat.zero_le _⟩
  | d :: ds, h => by
    obtain ⟨h1, h2, h3⟩ := h d (List.mem_cons_self ..)
    obtain ⟨a1, a2, a3⟩ := showAll fun e he => h e (List.mem_cons_of_mem _ he)
    refine ⟨by simp [PyData.showableAll, h1, a1], ?_, ?_⟩
    · simp only [PyData.depthAll]; omega
    · simp only [wzAll, List.length_cons]
      have e : (ds.length + 1) * (b + 2) = ds.length * (b + 2) + (b + 2) := Nat.succ_mul _ _
      omega
theorem Small.tuple {b k m : Nat} {ds : List PyData} (h : ∀ d ∈ ds, Small b k d) (hl : ds.length ≤ m) : Small (m * (b + 2) + 3) (k + 1) (.tuple ds) := by
  obtain ⟨a1, a2, a3⟩ := showAll h
  have e : ds.length * (b + 2) ≤ m * (b + 2) := Nat.mul_le_mul_right _ hl
  refine ⟨by simpa [PyData.showable] using a1, ?_, ?_⟩
  · simp only [PyData.depth]; omega
  · simp only [wz]; omega
theorem Small.list {b k m : Nat} {ds : List PyData} (h : ∀ d ∈ ds, Small b k d) (hl : ds.length ≤ m) : Small (m * (b + 2) + 3) (k + 1) (.list ds) := by
  obtain ⟨a1, a2, a3⟩ := showAll h
  have e : ds.length * (b + 2) ≤ m * (b + 2) := Nat.mul_le_mul_right _ hl
  refine ⟨by simpa [PyData.showable] using a1, ?_, ?_⟩
  · simp only [PyData.depth]; omega
  · simp only [wz]; omega
theorem log_small {i : Int} (h0 : -(2 ^ 100) < i) (h1 : i < 2 ^ 100) : i.natAbs.log2 < 100 := by
  have h : i.natAbs < 2 ^ 100 := by omega
  by_cases e : i.natAbs = 0
  · rw [e]; decide
  · exact (Nat.log2_lt e).mpr h
theorem Small.int {i : Int} (h0 : -(2 ^ 100) < i) (h1 : i < 2 ^ 100) : Small 104 0 (.int i) := by
  have h := log_small h0 h1
  refine ⟨by simp [PyData.showable]; omega, Nat.zero_le _, ?_⟩
  simp only [wz]; omega
theorem Small.ints {w : Int} {ns : List Int} (h : ∀ x ∈ ns, 1 ≤ x ∧ x ≤ w) (hw : w ≤ 1000000001) : ∀ d ∈ ns.map PyData.int, Small 104 0 d := fun d hd => by
  obtain ⟨x, hx, rfl⟩ := List.mem_map.mp hd
  have := h x hx
  exact Small.int (by omega) (by omega)
end SL
namespace SL
open PySem PySem.Spec PyProof.Rows L2
theorem Kp.free {p a : Addr} {H H' : Hp} (k : Kp p H H') (n : a ≠ p) (h : H' a = none) : H a = none := by
  match e : H a with
  | none => rfl
  | some o =>
    rw [k a o n e] at h
    exact nomatch h
theorem Kp.set {p a : Addr} {H H' : Hp} {o : HO} (k : Kp p H H') (h : H a = none) : Kp p H (upd H' a o) := fun b u n e => by
  rw [upd_ne (ne_of_none e h)]
  exact k b u n e
theorem Same.set {a : Addr} {H H' : Hp} {o : HO} (k : Same H H') (h : H a = none) : Same H (upd H' a o) := fun b u e => by
  rw [upd_ne (ne_of_none e h)]
  exact k b u e
theorem PotAt.set {p a : Addr} {H : Hp} {n : Nat} {o : HO} (h : PotAt H p n) (ne : a ≠ p) : PotAt (upd H a o) p n := by
  obtain ⟨x, y, z, e, r⟩ := h
  exact ⟨x, y, z, by rw [upd_ne ne.symm]; exact e, r⟩
theorem Cr.set {K : PySem.W.Frag} {p a : Addr} {H0 H : Hp} {n : Nat} {o : HO} (c : Cr K p H0 H n [] []) (h : H0 a = none) (ne : a ≠ p) : Cr K p H0 (upd H a o) n [] [] := ⟨c.k.set h, c.pot.set ne, .nil⟩
theorem Cr.free {K : PySem.W.Frag} {p a : Addr} {H0 H : Hp} {n : Nat} {vs : List V} {ds : List PyData} (c : Cr K p H0 H n vs ds) (h : H a = none) : H0 a = none := c.k.free (ne_pot c.pot h) h
theorem Cr.ne {K : PySem.W.Frag} {p a : Addr} {H0 H : Hp} {n : Nat} {vs : List V} {ds : List PyData} (c : Cr K p H0 H n vs ds) (h : H a = none) : a ≠ p := ne_pot c.pot h
/-- begun anew at the heap as it is -/
theorem Cr.here {K : PySem.W.Frag} {p : Addr} {H0 H : Hp} {n : Nat} {vs : List V} {ds : List PyData} (c : Cr K p H0 H n vs ds) : Cr K p H H n vs ds := ⟨Kp.refl, c.pot, c.all⟩
theorem Cr.get {K : PySem.W.Frag} {p a : Addr} {H0 H : Hp} {n : Nat} {vs : List V} {ds : List PyData} {o : HO} (c : Cr K p H0 H n vs ds) (ne : a ≠ p) (h : H0 a = some o) : H a = some o := c.k a o ne h
theorem Cr.tupAt {K : PySem.W.Frag} {p a : Addr} {H0 H : Hp} {n m : Nat} {vs : List V} {ds : List PyData} {xs : List V} (c : Cr K p H0 H n vs ds) (hp : PotAt H0 p m) (h : SqT K H0 a xs) : SqT K H a xs := c.k.tup hp h
theorem Cr.mono {K : PySem.W.Frag} {p : Addr} {H0 H : Hp} {n m : Nat} {vs : List V} {ds : List PyData} (c : Cr K p H0 H n vs ds) (h : n ≤ m) : Cr K p H0 H m vs ds := ⟨c.k, c.pot.mono h, c.all⟩
theorem Cr.tupS {K : PySem.W.Frag} {p a : Addr} {H0 H H' : Hp} {n : Nat} {vs xs : List V} {ds es : List PyData} (c : Cr K p H0 H n vs ds) (k : Same H H') (hS : SqT K H' a xs) (h : DqAll K p H xs es) : Cr K p H0 H' n (.ref a :: vs) (.tuple es :: ds) :=
  (c.same k).push (.tup hS (h.keep (.same k) _))
/-! ### the text of a tuple of ints is a small text -/
def OkS (x : Str) : Prop := ∀ c ∈ x.cps.toList, c < 16 ^ 8
theorem okS_of (s : String) : OkS (Str.ofString s) := by
  intro c hc
  rw [Str.ofString_eq_toList] at hc
  obtain ⟨k, _, rfl⟩ := List.mem_map.mp (show c ∈ s.toList.map Char.toNat from hc)
  have h : k.toNat < 1114112 := by
    have hv := k.valid
    simp only [UInt32.isValidChar, Nat.isValidChar] at hv
    show k.val.toNat < 1114112
    omega
  exact Nat.lt_of_lt_of_le h (by decide)
theorem OkS.app {x y : Str} (hx : OkS x) (hy : OkS y) : OkS (x ++ y) := by
  intro c hc
  have e : (x ++ y).cps.toList = x.cps.toList ++ y.cps.toList := by
    show (x.cps ++ y.cps).toList = _
    rw [Array.toList_append]
  rw [e] at hc
  exact (List.mem_append.mp hc).elim (hx c) (hy c)
theorem OkS.join {sep : Str} (hs : OkS sep) : ∀ {ts : List Str}, (∀ t ∈ ts, OkS t) → OkS (Str.join sep ts)
  | [], _ => fun c hc => by cases hc
  | [t], h => h t (List.mem_cons_self ..)
  | t :: u :: r, h => ((h t (List.mem_cons_self ..)).app hs).app (OkS.join hs fun v hv => h v (List.mem_cons_of_mem _ hv))
theorem shown_ints_ok (ns : List Int) : OkS (PyData.tuple (ns.map PyData.int)).shown := by
  simp only [PyData.shown]
  have h : ∀ t ∈ PyData.shownAll (ns.map PyData.int), OkS t := by
    induction ns with
    | nil => intro t ht; simp [PyData.shownAll] at ht
    | cons n ns ih =>
      intro t ht
      simp only [List.map_cons, PyData.shownAll, List.mem_cons] at ht
      rcases ht with rfl | ht
      · simp only [PyData.shown]
        exact okS_of _
      · exact ih t ht
  unfold tupleText
  refine OkS.app (OkS.app (okS_of _) (OkS.join (okS_of _) h)) ?_
  exact okS_of _
theorem Small.text {b : Nat} {ns : List Int} (h : wz (PyData.tuple (ns.map PyData.int)) ≤ b) : Small (10 * b + 2) 0 (.str (PyData.tuple (ns.map PyData.int)).shown) := by
  have h1 := StrLaws.reprText_len _ (shown_ints_ok ns)
  have h2 := shownz (PyData.tuple (ns.map PyData.int))
  refine ⟨rfl, Nat.zero_le _, ?_⟩
  show (reprText _).length ≤ _
  omega
def spRows (K : PySem.W.Frag) : Sp := fun vs H Q _ => ∃ (p : Addr) (m : Int) (n : Nat), vs = [.ref p, .int m] ∧ PotAt H p n ∧ n < 800000 ∧ 1 ≤ m ∧ m ≤ 1000000000 ∧
  ∀ H' l xs ds, Kp p H H' → PotAt H' p (n + 60) → H' l = some (.lst xs) → l ≠ p → DqAll K p H' xs ds → (∀ d ∈ ds, Small 50000 15 d) → Q (.ref l) H'
end SL
namespace SL
open PySem PySem.Spec PyProof.Rows L2
/-- what a law's turn is worth: it says True, and draws at most so often -/
def spRight (b : Nat) : Sp := fun vs H Q _ => ∃ (p : Addr) (n : Nat), vs = [.ref p] ∧ PotAt H p n ∧ n < 500000 ∧ ∀ H', Kp p H H' → PotAt H' p (n + b) → Q (.bl true) H'
def spLaw (K : PySem.W.Frag) : Sp := fun vs H Q _ => ∃ (a : Addr) (ns : List Int), vs = [.ref a] ∧ SqL K H a (ns.map V.int) ∧ ns.length ≤ 63 ∧ ∀ H', Q (.bl true) H'
theorem seq_past {K : PySem.W.Frag} {H H2 H' : Hp} {a p : Addr} {xs : List V} (h : SqL K H a xs) (hp : H p = none) (sm : Same H H2) (k : Kp p H2 H') : SqL K H' a xs := by
  rcases h with (h | ⟨o, h⟩) | h
  · exact .inl (.inl (k _ _ (ne_of_none h hp) (sm _ _ h)))
  · exact .inl (.inr ⟨o, k _ _ (ne_of_none h hp) (sm _ _ h)⟩)
  · exact .inr h
theorem rep_true (i : Nat) : ((List.replicate i true).all id) = true := by
  rw [List.all_eq_true]
  intro x hx
  rw [List.eq_of_mem_replicate hx]
  rfl
end SL

set_option Elab.async false
set_option linter.all false
set_option maxRecDepth 100000
/-! Own layer 5: where defs and constants of the text stand. -/
namespace SL
open PySem PySem.Spec PyProof.Rows L2
theorem stands_mk {K : PySem.W.Frag} {mg : Str → Option Value} {h : Heap} {x : Str} {st : Stmt} {f : Addr} {oc : Value} {od an : Option Addr} {osl : Array (Option Value)} {kV doc pm cdv ct : Value} (X : K.In h) (G : h.Ns mainGlobals mg)
    (a : PySem.W.nsIn K mainGlobals x = some (some (.ref f))) (l : K.lookup f = some ⟨oc, od, .func (PySem.W.fnOf x x (defArgs st) (defBody st) (defScope st) .none kV doc pm an cdv ct), osl⟩) (c : PySem.W.codeIn K cdv x = true) (k : PySem.W.keepIn K (.ref f) = true) : Stands K mg x st :=
  ⟨f, _, fun_mk l c k, PySem.W.mg_of X G a⟩
/-- the law itself: its one argument -/
theorem law_fd {K : PySem.W.Frag} {mg : Str → Option Value} {st : Stmt} {fa : Addr} {x : Str} (S : Stands K mg "law" st) (hfa : mg "law" = some (.ref fa))
    (hbind : ∀ (kV doc pm : Value) (an : Option Addr) (cdv ct u : Value), bindArgs (PySem.W.fnOf "law" "law" (defArgs st) (defBody st) (defScope st) .none kV doc pm an cdv ct) ⟨[u], []⟩ = pure [(x, u)]) :
    ∃ fd : FuncData, Fun K "law" "law" st fa fd ∧ ∀ (s : Shared) (u : Value), BindsTo s fd ⟨[u], []⟩ [(x, u)] := by
  obtain ⟨f, fd, F, hm⟩ := S
  have e : f = fa := by
    have z := hm.symm.trans hfa
    injection z with z
    injection z
  subst e
  refine ⟨fd, F, fun s u => ?_⟩
  obtain ⟨oc, od, kV, doc, pm, an, cdv, ct, osl, rfl, lk, hcd⟩ := F.ex
  exact .of_eq (hbind kV doc pm an cdv ct u)
end SL

set_option Elab.async false
set_option linter.all false
set_option maxRecDepth 100000
set_option maxHeartbeats 1000000
/-! Own layer 6: lines, costs, counts as functions of a text. -/
namespace SL
open PySem PySem.Spec PyProof.Rows L2

def linesF (ns : Nat → Int) : Nat → Int → List (Nat × Int)
  | 0, _ => []
  | b + 1, f => if ns b < f then (b, f - (ns b + 1)) :: linesF ns b (f - (ns b + 1)) else []
def stepL (m : Int) (x : Int × Nat) : Int := if x.1 < m then x.1 else m
def least : List (Int × Nat) → Int
  | [] => 0
  | r :: rs => rs.foldl stepL r.1
def cheap (rs : List (Int × Nat)) : List Nat := (rs.filter fun r => decide (r.1 = least rs)).map (·.2)
def rate (L : List Int) (ls : List (Nat × Int)) : List (Int × Nat) := ls.map fun p => (L.getD p.1 0 + p.2 ^ 2, p.1)
def cs (ns : Nat → Int) (w : Int) : Nat → List Int
  | 0 => [0]
  | e + 1 => cs ns w e ++ [least (rate (cs ns w e) (linesF ns (e + 1) (w + 1)))]
def begs (ns : Nat → Int) (w : Int) : Nat → List (List Nat)
  | 0 => [[]]
  | e + 1 => begs ns w e ++ [cheap (rate (cs ns w e) (linesF ns (e + 1) (w + 1)))]
def sumAt (N : List Int) (bs : List Nat) : Int := (bs.map fun b => N.getD b 0).sum
def cnt (ns : Nat → Int) (w : Int) : Nat → List Int
  | 0 => [1]
  | e + 1 => cnt ns w e ++ [sumAt (cnt ns w e) (cheap (rate (cs ns w e) (linesF ns (e + 1) (w + 1))))]
def rate0 (L : List Int) (ls : List (Nat × Int)) : List (Int × Nat) := ls.map fun p => (L.getD p.1 0, p.1)
def lastB (ns : Nat → Int) (w : Int) (n : Nat) : List Nat := cheap (rate0 (cs ns w n) (linesF ns n (w + 1)))
def many (ns : Nat → Int) (w : Int) (n : Nat) : Int := sumAt (cnt ns w n) (lastB ns w n)

/-! ### least -/
theorem fold_spec : ∀ (rs : List (Int × Nat)) (m : Int), (rs.foldl stepL m = m ∨ ∃ x ∈ rs, x.1 = rs.foldl stepL m) ∧ rs.foldl stepL m ≤ m ∧ ∀ x ∈ rs, rs.foldl stepL m ≤ x.1
  | [], m => ⟨.inl rfl, Int.le_refl _, fun _ h => nomatch h⟩
  | r :: rs, m => by
    obtain ⟨h1, h2, h3⟩ := fold_spec rs (stepL m r)
    have hm : stepL m r ≤ m ∧ stepL m r ≤ r.1 ∧ (stepL m r = m ∨ stepL m r = r.1) := by
      unfold stepL
      split <;> (refine ⟨by omega, by omega, ?_⟩ <;> first | exact .inl rfl | exact .inr rfl)
    rw [List.foldl_cons]
    refine ⟨?_, by omega, fun x hx => ?_⟩
    · rcases h1 with h1 | ⟨x, hx, e⟩
      · rcases hm.2.2 with e | e
        · exact .inl (h1.trans e)
        · exact .inr ⟨r, List.mem_cons_self .., (h1.trans e).symm⟩
      · exact .inr ⟨x, List.mem_cons_of_mem _ hx, e⟩
    · rcases List.mem_cons.mp hx with rfl | hx
      · omega
      · exact h3 x hx
theorem least_spec {rs : List (Int × Nat)} (h : rs ≠ []) : (∃ x ∈ rs, x.1 = least rs) ∧ ∀ x ∈ rs, least rs ≤ x.1 := by
  match rs, h with
  | r :: rs, _ =>
    obtain ⟨h1, h2, h3⟩ := fold_spec rs r.1
    refine ⟨?_, fun x hx => ?_⟩
    · rcases h1 with h1 | ⟨x, hx, e⟩
      · exact ⟨r, List.mem_cons_self .., h1.symm⟩
      · exact ⟨x, List.mem_cons_of_mem _ hx, e⟩
    · rcases List.mem_cons.mp hx with rfl | hx
      · exact h2
      · exact h3 x hx
theorem least_uni {rs : List (Int × Nat)} {m : Int} (h : m ∈ rs.map (·.1)) (h2 : ∀ y ∈ rs.map (·.1), m ≤ y) : m = least rs := by
  obtain ⟨x, hx, rfl⟩ := List.mem_map.mp h
  have hne : rs ≠ [] := fun e => by rw [e] at hx; cases hx
  obtain ⟨⟨y, hy, e⟩, h3⟩ := least_spec hne
  have a := h2 y.1 (List.mem_map.mpr ⟨y, hy, rfl⟩)
  have b := h3 x hx
  omega
theorem least_push {rs : List (Int × Nat)} (h : rs ≠ []) (x : Int × Nat) : least (rs ++ [x]) = if x.1 < least rs then x.1 else least rs := by
  match rs, h with
  | r :: rs, _ =>
    show (rs ++ [x]).foldl stepL r.1 = _
    rw [List.foldl_append]
    rfl
theorem least_one (x : Int × Nat) : least [x] = x.1 := rfl

/-! ### lines -/
theorem linesF_mem {ns : Nat → Int} : ∀ {e : Nat} {f : Int} {p : Nat × Int}, (∀ b < e, 0 ≤ ns b) → p ∈ linesF ns e f → p.1 < e ∧ 0 ≤ p.2 ∧ p.2 < f
  | 0, _, _, _, h => nomatch h
  | b + 1, f, p, h0, h => by
    unfold linesF at h
    have hb := h0 b (by omega)
    split at h
    · rcases List.mem_cons.mp h with rfl | h
      · refine ⟨by show b < b + 1; omega, by show 0 ≤ f - (ns b + 1); omega, by show f - (ns b + 1) < f; omega⟩
      · obtain ⟨a, b2, c⟩ := linesF_mem (fun c hc => h0 c (by omega)) h
        exact ⟨by omega, b2, by omega⟩
    · cases h
theorem linesF_len {ns : Nat → Int} : ∀ {e : Nat} {f : Int}, (linesF ns e f).length ≤ e
  | 0, _ => Nat.le_refl _
  | b + 1, f => by
    unfold linesF
    split
    · rw [List.length_cons]
      have := linesF_len (ns := ns) (e := b) (f := f - (ns b + 1))
      omega
    · exact Nat.zero_le _
theorem linesF_ne {ns : Nat → Int} {e : Nat} {f : Int} (h : ns e < f) : linesF ns (e + 1) f ≠ [] := by
  unfold linesF
  rw [if_pos h]
  exact List.cons_ne_nil _ _
theorem linesF_congr {ns ms : Nat → Int} : ∀ {e : Nat} {f : Int}, (∀ b < e, ns b = ms b) → linesF ns e f = linesF ms e f
  | 0, _, _ => rfl
  | b + 1, f, h => by
    unfold linesF
    rw [h b (by omega), linesF_congr (e := b) fun c hc => h c (by omega)]
theorem cs_congr {ns ms : Nat → Int} {w : Int} : ∀ {e : Nat}, (∀ b < e, ns b = ms b) → cs ns w e = cs ms w e
  | 0, _ => rfl
  | e + 1, h => by
    unfold cs
    rw [cs_congr (e := e) fun c hc => h c (by omega), linesF_congr h]
theorem cnt_congr {ns ms : Nat → Int} {w : Int} : ∀ {e : Nat}, (∀ b < e, ns b = ms b) → cnt ns w e = cnt ms w e
  | 0, _ => rfl
  | e + 1, h => by
    unfold cnt
    rw [cnt_congr (e := e) fun c hc => h c (by omega), cs_congr (e := e) fun c hc => h c (by omega), linesF_congr h]

/-! ### tables -/
theorem cs_len {ns : Nat → Int} {w : Int} : ∀ e, (cs ns w e).length = e + 1
  | 0 => rfl
  | e + 1 => by unfold cs; rw [List.length_append, cs_len e]; rfl
theorem begs_len {ns : Nat → Int} {w : Int} : ∀ e, (begs ns w e).length = e + 1
  | 0 => rfl
  | e + 1 => by unfold begs; rw [List.length_append, begs_len e]; rfl
theorem cnt_len {ns : Nat → Int} {w : Int} : ∀ e, (cnt ns w e).length = e + 1
  | 0 => rfl
  | e + 1 => by unfold cnt; rw [List.length_append, cnt_len e]; rfl
theorem getD_pre {α : Type} {L M : List α} {b : Nat} {d : α} (h : b < L.length) : (L ++ M).getD b d = L.getD b d := by
  rw [List.getD_eq_getElem?_getD, List.getD_eq_getElem?_getD, List.getElem?_append_left h]
theorem getD_last {α : Type} {L : List α} {x d : α} {b : Nat} (h : b = L.length) : (L ++ [x]).getD b d = x := by
  rw [List.getD_eq_getElem?_getD, List.getElem?_append_right (by omega), h]
  simp
theorem cs_pre {ns : Nat → Int} {w : Int} {b : Nat} : ∀ {m n : Nat}, b ≤ m → m ≤ n → (cs ns w n).getD b 0 = (cs ns w m).getD b 0 := by
  intro m n h1 h2
  induction n with
  | zero => rw [show m = 0 by omega]
  | succ n ih =>
    by_cases e : m = n + 1
    · rw [e]
    · rw [show cs ns w (n + 1) = cs ns w n ++ [least (rate (cs ns w n) (linesF ns (n + 1) (w + 1)))] from rfl, getD_pre (by rw [cs_len]; omega), ih (by omega)]
theorem cs_at {ns : Nat → Int} {w : Int} {m n : Nat} (h : m + 1 ≤ n) : (cs ns w n).getD (m + 1) 0 = least (rate (cs ns w m) (linesF ns (m + 1) (w + 1))) := by
  rw [cs_pre (m := m + 1) (Nat.le_refl _) h]
  exact getD_last (by rw [cs_len])
theorem cnt_pre {ns : Nat → Int} {w : Int} {b : Nat} : ∀ {m n : Nat}, b ≤ m → m ≤ n → (cnt ns w n).getD b 0 = (cnt ns w m).getD b 0 := by
  intro m n h1 h2
  induction n with
  | zero => rw [show m = 0 by omega]
  | succ n ih =>
    by_cases e : m = n + 1
    · rw [e]
    · rw [show cnt ns w (n + 1) = cnt ns w n ++ [sumAt (cnt ns w n) (cheap (rate (cs ns w n) (linesF ns (n + 1) (w + 1))))] from rfl, getD_pre (by rw [cnt_len]; omega), ih (by omega)]
theorem begs_at {ns : Nat → Int} {w : Int} {m : Nat} : ∀ {n : Nat}, m + 1 ≤ n → (begs ns w n)[m + 1]? = some (cheap (rate (cs ns w m) (linesF ns (m + 1) (w + 1)))) := by
  intro n h
  induction n with
  | zero => omega
  | succ n ih =>
    rw [show begs ns w (n + 1) = begs ns w n ++ [cheap (rate (cs ns w n) (linesF ns (n + 1) (w + 1)))] from rfl]
    by_cases e : m = n
    · subst e
      rw [List.getElem?_append_right (by rw [begs_len]; omega), begs_len]
      simp
    · rw [List.getElem?_append_left (by rw [begs_len]; omega)]
      exact ih (by omega)

/-! ### sums of those that are met -/
def metSum (N : List Int) (met : Nat × Int → Bool) (ps : List (Nat × Int)) : Int := (ps.map fun p => N.getD p.1 0 * (if met p = true then 1 else 0)).sum
theorem metSum_push (N : List Int) (met : Nat × Int → Bool) (ps : List (Nat × Int)) (p : Nat × Int) : metSum N met (ps ++ [p]) = metSum N met ps + N.getD p.1 0 * (if met p = true then 1 else 0) := by
  unfold metSum
  rw [List.map_append, List.sum_append]
  simp
theorem filter_sum (N : List Int) (g : Nat × Int → Int) (z : Int) : ∀ ps : List (Nat × Int), sumAt N (((ps.map fun p => (g p, p.1)).filter fun r => decide (r.1 = z)).map (·.2)) = metSum N (fun p => decide (g p = z)) ps
  | [] => rfl
  | p :: ps => by
    have ih := filter_sum N g z ps
    unfold sumAt metSum at *
    rw [List.map_cons, List.filter_cons, List.map_cons, List.sum_cons]
    by_cases h : g p = z
    · simp only [h, decide_true, if_true, List.map_cons, List.sum_cons, ih, Int.mul_one]
    · simp only [h, decide_false, Bool.false_eq_true, if_false, Int.mul_zero, Int.zero_add, ih]
theorem cheap_sum (N L : List Int) (ls : List (Nat × Int)) : sumAt N (cheap (rate L ls)) = metSum N (fun p => decide (L.getD p.1 0 + p.2 ^ 2 = least (rate L ls))) ls := filter_sum N (fun p => L.getD p.1 0 + p.2 ^ 2) _ ls
theorem cheap_sum0 (N L : List Int) (ls : List (Nat × Int)) : sumAt N (cheap (rate0 L ls)) = metSum N (fun p => decide (L.getD p.1 0 = least (rate0 L ls))) ls := filter_sum N (fun p => L.getD p.1 0) _ ls
theorem metSum_congr {N M : List Int} {f g : Nat × Int → Bool} : ∀ {ps : List (Nat × Int)}, (∀ p ∈ ps, f p = g p) → (∀ p ∈ ps, N.getD p.1 0 = M.getD p.1 0) → metSum N f ps = metSum M g ps
  | [], _, _ => rfl
  | p :: ps, h, h2 => by
    have ih := metSum_congr (fun q hq => h q (List.mem_cons_of_mem _ hq)) (fun q hq => h2 q (List.mem_cons_of_mem _ hq))
    unfold metSum at *
    rw [List.map_cons, List.sum_cons, List.map_cons, List.sum_cons, ih, h p (List.mem_cons_self ..), h2 p (List.mem_cons_self ..)]

/-! ### bounds of the counts -/
theorem metSum_bound {N : List Int} {f : Nat × Int → Bool} {B : Int} (hB : 0 ≤ B) : ∀ {ps : List (Nat × Int)}, (∀ p ∈ ps, 0 ≤ N.getD p.1 0 ∧ N.getD p.1 0 ≤ B) → 0 ≤ metSum N f ps ∧ metSum N f ps ≤ ps.length * B
  | [], _ => ⟨Int.le_refl _, by simp [metSum]⟩
  | p :: ps, h => by
    have ih := metSum_bound (f := f) hB (fun q hq => h q (List.mem_cons_of_mem _ hq))
    have hp := h p (List.mem_cons_self ..)
    have e : metSum N f (p :: ps) = N.getD p.1 0 * (if f p = true then 1 else 0) + metSum N f ps := by
      unfold metSum
      rw [List.map_cons, List.sum_cons]
    rw [e, List.length_cons]
    have e2 : ((ps.length + 1 : Nat) : Int) * B = ps.length * B + B := by
      rw [Int.natCast_add, Int.add_mul]
      simp
    rw [e2]
    generalize N.getD p.1 0 = x at hp ⊢
    cases f p
    · simp only [Bool.false_eq_true, if_false, Int.mul_zero]
      omega
    · simp only [if_true, Int.mul_one]
      omega
theorem linesF_len2 {ns : Nat → Int} : ∀ {e : Nat} {f : Int}, (∀ b < e, 1 ≤ ns b) → 0 ≤ f → 2 * ((linesF ns e f).length : Int) ≤ f
  | 0, _, _, h => h
  | b + 1, f, h1, h => by
    have hb := h1 b (by omega)
    unfold linesF
    split
    · rw [List.length_cons]
      have := linesF_len2 (ns := ns) (e := b) (f := f - (ns b + 1)) (fun c hc => h1 c (by omega)) (by omega)
      omega
    · exact h
theorem cnt_bound {ns : Nat → Int} {w : Int} (hw0 : 0 ≤ w) (hw : w ≤ 30) : ∀ {n : Nat}, (∀ b < n, 1 ≤ ns b) → ∀ b, b ≤ n → 0 ≤ (cnt ns w n).getD b 0 ∧ (cnt ns w n).getD b 0 ≤ 16 ^ n
  | 0, _ => fun b hb => by
    rw [show b = 0 by omega]
    exact ⟨by show (0 : Int) ≤ 1; decide, by show (1 : Int) ≤ 1; decide⟩
  | n + 1, h0 => fun b hb => by
    have ih := cnt_bound hw0 hw (n := n) (fun c hc => h0 c (by omega))
    have hpos : (0 : Int) ≤ 16 ^ n := Int.le_of_lt (Int.pow_pos (by decide))
    have e : ((16 : Int)) ^ (n + 1) = 16 * 16 ^ n := by rw [Int.pow_succ, Int.mul_comm]
    rw [e]
    by_cases hlt : b ≤ n
    · rw [cnt_pre hlt (Nat.le_succ n)]
      have := ih b hlt
      omega
    · rw [show b = n + 1 by omega, show cnt ns w (n + 1) = cnt ns w n ++ [sumAt (cnt ns w n) (cheap (rate (cs ns w n) (linesF ns (n + 1) (w + 1))))] from rfl, getD_last (by rw [cnt_len]), cheap_sum]
      have hl := linesF_len2 (ns := ns) (e := n + 1) (f := w + 1) h0 (by omega)
      obtain ⟨a1, a2⟩ := metSum_bound (N := cnt ns w n) (f := fun p => decide ((cs ns w n).getD p.1 0 + p.2 ^ 2 = least (rate (cs ns w n) (linesF ns (n + 1) (w + 1))))) hpos (ps := linesF ns (n + 1) (w + 1))
        (fun p hp => ih p.1 (by have := (linesF_mem (fun c hc => by have := h0 c hc; omega) hp).1; omega))
      refine ⟨a1, Int.le_trans a2 (Int.mul_le_mul_of_nonneg_right (by omega) hpos)⟩
theorem many_bound {ns : Nat → Int} {w : Int} {n : Nat} (hw0 : 0 ≤ w) (hw : w ≤ 30) (h0 : ∀ b < n, 1 ≤ ns b) : 0 ≤ many ns w n ∧ many ns w n ≤ 16 * 16 ^ n := by
  have hpos : (0 : Int) ≤ 16 ^ n := Int.le_of_lt (Int.pow_pos (by decide))
  have hl := linesF_len2 (ns := ns) (e := n) (f := w + 1) h0 (by omega)
  unfold many lastB
  rw [cheap_sum0]
  obtain ⟨a1, a2⟩ := metSum_bound (N := cnt ns w n) (f := fun p => decide ((cs ns w n).getD p.1 0 = least (rate0 (cs ns w n) (linesF ns n (w + 1))))) hpos (ps := linesF ns n (w + 1))
    (fun p hp => cnt_bound hw0 hw h0 p.1 (by have := (linesF_mem (fun c hc => by have := h0 c hc; omega) hp).1; omega))
  exact ⟨a1, Int.le_trans a2 (Int.mul_le_mul_of_nonneg_right (by omega) hpos)⟩
theorem many_log {ns : Nat → Int} {w : Int} {n : Nat} (hw0 : 0 ≤ w) (hw : w ≤ 30) (h0 : ∀ b < n, 1 ≤ ns b) (hn : n ≤ 310) : (many ns w n).natAbs.log2 < 1300 := by
  obtain ⟨a, b⟩ := many_bound hw0 hw h0
  have c : (16 : Int) * 16 ^ n ≤ 16 * 16 ^ 310 := Int.mul_le_mul_of_nonneg_left (by
    have : (16 : Nat) ^ n ≤ 16 ^ 310 := Nat.pow_le_pow_right (by decide) hn
    exact_mod_cast this) (by decide)
  have d : (16 : Int) * 16 ^ 310 < 2 ^ 1300 := by decide +kernel
  have h : (many ns w n).natAbs < 2 ^ 1300 := by
    have x : (2 : Int) ^ 1300 = ((2 ^ 1300 : Nat) : Int) := by norm_cast
    omega
  by_cases e : (many ns w n).natAbs = 0
  · rw [e]; decide
  · exact (Nat.log2_lt e).mpr h

/-! ### ones, and width 6 -/
def ones : Nat → Int := fun _ => 1
theorem lines_ones (e : Nat) : linesF ones (e + 3) 7 = [(e + 2, 5), (e + 1, 3), (e, 1)] := by
  have h4 : linesF ones e 1 = [] := by
    match e with
    | 0 => rfl
    | e + 1 => rfl
  show (e + 2, (5 : Int)) :: (e + 1, 3) :: (e, 1) :: linesF ones e 1 = _
  rw [h4]
abbrev C6 (b : Nat) : Int := (cs ones 6 b).getD b 0
abbrev N6 (b : Nat) : Int := (cnt ones 6 b).getD b 0
theorem C6_step (e : Nat) : C6 (e + 3) = least [(C6 (e + 2) + 25, e + 2), (C6 (e + 1) + 9, e + 1), (C6 e + 1, e)] := by
  show (cs ones 6 (e + 3)).getD (e + 2 + 1) 0 = _
  rw [cs_at (m := e + 2) (Nat.le_refl _), show (6 : Int) + 1 = 7 from rfl, show e + 2 + 1 = e + 3 from rfl, lines_ones]
  unfold rate
  simp only [List.map_cons, List.map_nil]
  rw [cs_pre (b := e + 1) (m := e + 1) (n := e + 2) (by omega) (by omega), cs_pre (b := e) (m := e) (n := e + 2) (by omega) (by omega)]
  rfl
theorem N6_step (e : Nat) : N6 (e + 3) = (if C6 (e + 2) + 25 = C6 (e + 3) then N6 (e + 2) else 0) + ((if C6 (e + 1) + 9 = C6 (e + 3) then N6 (e + 1) else 0) + (if C6 e + 1 = C6 (e + 3) then N6 e else 0)) := by
  have h1 : C6 (e + 3) = least (rate (cs ones 6 (e + 2)) (linesF ones (e + 2 + 1) (6 + 1))) := cs_at (m := e + 2) (Nat.le_refl _)
  have h2 : N6 (e + 3) = sumAt (cnt ones 6 (e + 2)) (cheap (rate (cs ones 6 (e + 2)) (linesF ones (e + 2 + 1) (6 + 1)))) := getD_last (by rw [cnt_len])
  rw [h2, cheap_sum, ← h1, show (6 : Int) + 1 = 7 from rfl, show e + 2 + 1 = e + 3 from rfl, lines_ones]
  unfold metSum
  show (cnt ones 6 (e + 2)).getD (e + 2) 0 * (if decide ((cs ones 6 (e + 2)).getD (e + 2) 0 + 25 = C6 (e + 3)) = true then 1 else 0) + ((cnt ones 6 (e + 2)).getD (e + 1) 0 * (if decide ((cs ones 6 (e + 2)).getD (e + 1) 0 + 9 = C6 (e + 3)) = true then 1 else 0) + ((cnt ones 6 (e + 2)).getD e 0 * (if decide ((cs ones 6 (e + 2)).getD e 0 + 1 = C6 (e + 3)) = true then 1 else 0) + 0)) = _
  rw [cs_pre (b := e + 1) (m := e + 1) (n := e + 2) (by omega) (by omega), cs_pre (b := e) (m := e) (n := e + 2) (by omega) (by omega), cnt_pre (b := e + 1) (m := e + 1) (n := e + 2) (by omega) (by omega), cnt_pre (b := e) (m := e) (n := e + 2) (by omega) (by omega)]
  show _ * (if decide (C6 (e + 2) + 25 = C6 (e + 3)) = true then 1 else 0) + (_ * (if decide (C6 (e + 1) + 9 = C6 (e + 3)) = true then 1 else 0) + (_ * (if decide (C6 e + 1 = C6 (e + 3)) = true then 1 else 0) + 0)) = _
  simp only [decide_eq_true_eq]
  split <;> split <;> split <;> simp
theorem six : ∀ m : Nat, C6 (3 * (m + 1)) = m + 1 ∧ C6 (3 * (m + 1) + 1) = m + 18 ∧ C6 (3 * (m + 1) + 2) = m + 10 ∧ N6 (3 * (m + 1)) = 1 ∧ 2 * N6 (3 * (m + 1) + 1) = (m + 1) * (m + 2) ∧ N6 (3 * (m + 1) + 2) = m + 2
  | 0 => by decide +kernel
  | m + 1 => by
    obtain ⟨c0, c1, c2, n0, n1, n2⟩ := six m
    have l3 : ∀ a b c : Int × Nat, least [a, b, c] = if c.1 < (if b.1 < a.1 then b.1 else a.1) then c.1 else (if b.1 < a.1 then b.1 else a.1) := fun _ _ _ => rfl
    have d0 : C6 (3 * (m + 1 + 1)) = m + 2 := by
      rw [show 3 * (m + 1 + 1) = 3 * (m + 1) + 3 by omega, C6_step, c0, c1, c2, l3]
      dsimp only
      split <;> split at * <;> omega
    have d1 : C6 (3 * (m + 1 + 1) + 1) = m + 19 := by
      rw [show 3 * (m + 1 + 1) + 1 = (3 * (m + 1) + 1) + 3 by omega, C6_step, show 3 * (m + 1) + 1 + 2 = 3 * (m + 1 + 1) by omega, show 3 * (m + 1) + 1 + 1 = 3 * (m + 1) + 2 by omega, c1, c2, d0, l3]
      dsimp only
      split <;> split at * <;> omega
    have d2 : C6 (3 * (m + 1 + 1) + 2) = m + 11 := by
      rw [show 3 * (m + 1 + 1) + 2 = (3 * (m + 1) + 2) + 3 by omega, C6_step, show 3 * (m + 1) + 2 + 2 = 3 * (m + 1 + 1) + 1 by omega, show 3 * (m + 1) + 2 + 1 = 3 * (m + 1 + 1) by omega, c2, d0, d1, l3]
      dsimp only
      split <;> split at * <;> omega
    have e0 : N6 (3 * (m + 1 + 1)) = 1 := by
      have s := N6_step (3 * (m + 1))
      rw [show 3 * (m + 1) + 3 = 3 * (m + 1 + 1) by omega, c0, c1, c2, d0, n0] at s
      rw [s, if_neg (by omega), if_neg (by omega), if_pos (by omega)]
      rfl
    have e1 : N6 (3 * (m + 1 + 1) + 1) = N6 (3 * (m + 1) + 2) + N6 (3 * (m + 1) + 1) := by
      have s := N6_step (3 * (m + 1) + 1)
      rw [show 3 * (m + 1) + 1 + 3 = 3 * (m + 1 + 1) + 1 by omega, show 3 * (m + 1) + 1 + 2 = 3 * (m + 1 + 1) by omega, show 3 * (m + 1) + 1 + 1 = 3 * (m + 1) + 2 by omega, c1, c2, d0, d1] at s
      rw [s, if_neg (by omega), if_pos (by omega), if_pos (by omega)]
      omega
    have e2 : N6 (3 * (m + 1 + 1) + 2) = m + 3 := by
      have s := N6_step (3 * (m + 1) + 2)
      rw [show 3 * (m + 1) + 2 + 3 = 3 * (m + 1 + 1) + 2 by omega, show 3 * (m + 1) + 2 + 2 = 3 * (m + 1 + 1) + 1 by omega, show 3 * (m + 1) + 2 + 1 = 3 * (m + 1 + 1) by omega, c2, d0, d1, d2, e0, n2] at s
      rw [s, if_neg (by omega), if_pos (by omega), if_pos (by omega)]
      omega
    refine ⟨by rw [d0]; omega, by rw [d1]; omega, by rw [d2]; omega, e0, ?_, by rw [e2]; omega⟩
    rw [e1, n2, Int.mul_add, n1]
    have x : ((m + 1 : Nat) : Int) = (m : Int) + 1 := by omega
    rw [x]
    have y : ((m : Int) + 1 + 1) * ((m : Int) + 1 + 2) = ((m : Int) + 1) * ((m : Int) + 2) + 2 * ((m : Int) + 2) := by
      rw [show (m : Int) + 1 + 2 = ((m : Int) + 1) + 2 by omega, Int.mul_add, Int.add_mul, Int.mul_comm ((m : Int) + 1) ((m : Int) + 1), show (m : Int) + 2 = ((m : Int) + 1) + 1 by omega]
      generalize (m : Int) + 1 = z
      rw [Int.mul_add z z 1]
      omega
    rw [y]
    omega
/-- a text of k ones and a 6 -/
theorem many_ones {ns : Nat → Int} {k : Nat} (h : ∀ b < k, ns b = 1) (h6 : ns k = 6) : many ns 6 (k + 1) = N6 k := by
  have hl : linesF ns (k + 1) 7 = [(k, 0)] := by
    unfold linesF
    rw [if_pos (by rw [h6]; decide), h6, show (7 : Int) - (6 + 1) = 0 by decide]
    match k, h with
    | 0, _ => rfl
    | k + 1, h =>
      unfold linesF
      rw [if_neg (by rw [h k (by omega)]; decide)]
  have hb : lastB ns 6 (k + 1) = [k] := by
    unfold lastB
    rw [show (6 : Int) + 1 = 7 from rfl, hl]
    unfold rate0 cheap
    simp [least]
  unfold many
  rw [hb]
  show (cnt ns 6 (k + 1)).getD k 0 + 0 = _
  rw [cnt_pre (b := k) (m := k) (n := k + 1) (Nat.le_refl _) (by omega), cnt_congr (ms := ones) h, Int.add_zero]
end SL

set_option Elab.async false
set_option linter.all false
set_option maxRecDepth 100000
set_option maxHeartbeats 1000000
/-! Own layer 7: what the table's defs promise. -/
namespace SL
open PySem PySem.Spec PyProof.Rows L2
def AllAt {α : Type} (R : Addr → α → Prop) (rs : List V) (ps : List α) : Prop := rs.length = ps.length ∧ ∀ (i : Nat) (p : α), ps[i]? = some p → ∃ a, rs[i]? = some (V.ref a) ∧ R a p
theorem AllAt.nil {α : Type} {R : Addr → α → Prop} : AllAt R [] [] := ⟨rfl, fun i p h => by cases h⟩
theorem AllAt.mono {α : Type} {R R' : Addr → α → Prop} {rs : List V} {ps : List α} (h : AllAt R rs ps) (k : ∀ a p, R a p → R' a p) : AllAt R' rs ps :=
  ⟨h.1, fun i p e => let ⟨a, b, c⟩ := h.2 i p e; ⟨a, b, k a p c⟩⟩
theorem AllAt.push {α : Type} {R : Addr → α → Prop} {rs : List V} {ps : List α} {a : Addr} {p : α} (h : AllAt R rs ps) (k : R a p) : AllAt R (rs ++ [.ref a]) (ps ++ [p]) := by
  refine ⟨by rw [List.length_append, List.length_append, h.1]; rfl, fun i q e => ?_⟩
  by_cases hi : i < ps.length
  · rw [List.getElem?_append_left hi] at e
    rw [List.getElem?_append_left (by rw [h.1]; exact hi)]
    exact h.2 i q e
  · have hi2 : i < (ps ++ [p]).length := (List.getElem?_eq_some_iff.mp e).1
    rw [List.length_append] at hi2
    have ei : i = ps.length := by
      have : [p].length = 1 := rfl
      omega
    subst ei
    rw [List.getElem?_append_right (Nat.le_refl _), Nat.sub_self] at e
    cases (Option.some.inj e)
    rw [List.getElem?_append_right (by rw [h.1]; exact Nat.le_refl _), h.1, Nat.sub_self]
    exact ⟨a, rfl, k⟩
theorem AllAt.get {α : Type} {R : Addr → α → Prop} {rs : List V} {ps : List α} {i : Nat} {x : V} (h : AllAt R rs ps) (e : rs[i]? = some x) : ∃ p a, x = .ref a ∧ ps[i]? = some p ∧ R a p := by
  have hi : i < rs.length := (List.getElem?_eq_some_iff.mp e).1
  rw [h.1] at hi
  obtain ⟨a, h1, h2⟩ := h.2 i ps[i] (List.getElem?_eq_getElem hi)
  rw [h1] at e
  exact ⟨ps[i], a, (Option.some.inj e).symm, List.getElem?_eq_getElem hi, h2⟩
theorem take_succ {α : Type} {ps : List α} {i : Nat} {p : α} (h : ps[i]? = some p) : ps.take (i + 1) = ps.take i ++ [p] := by
  rw [List.take_succ, h]
  rfl
theorem same_free {H H' : Hp} {a : Addr} (k : Same H H') (h : H' a = none) : H a = none := by
  match e : H a with
  | none => rfl
  | some o => rw [k a o e] at h; exact nomatch h
theorem same_tr {H H1 H2 : Hp} (a : Same H H1) (b : Same H1 H2) : Same H H2 := fun c o h => b c o (a c o h)
/-- one more new object -/
theorem same_more {H H' : Hp} {a : Addr} {o : HO} (k : Same H H') (h : H' a = none) : Same H (upd H' a o) := fun b u e => by
  rw [upd_ne (ne_of_none (k b u e) h)]
  exact k b u e
theorem linesF_yes {ns : Nat → Int} {b : Nat} {f : Int} (h : ns b < f) : linesF ns (b + 1) f = (b, f - (ns b + 1)) :: linesF ns b (f - (ns b + 1)) := by
  show (if ns b < f then _ else _) = _
  rw [if_pos h]
theorem linesF_no {ns : Nat → Int} {b : Nat} {f : Int} (h : ¬ ns b < f) : linesF ns (b + 1) f = [] := by
  show (if ns b < f then _ else _) = _
  rw [if_neg h]
theorem dec_ints (i j : Int) : decide (V.int i = V.int j) = decide (i = j) := by
  rw [Bool.eq_iff_iff]
  simp
theorem take_all {α : Type} {R : Addr → α → Prop} {rs : List V} {ps : List α} (h : AllAt R rs ps) : ps.take rs.length = ps := by rw [h.1, List.take_length]
def LnAt (H : Hp) (a : Addr) (p : Nat × Int) : Prop := H a = some (.tup [.int (p.1 : Int), .int p.2])
def RtAt (H : Hp) (a : Addr) (p : Int × Nat) : Prop := H a = some (.tup [.int p.1, .int (p.2 : Int)])
def BgAt (H : Hp) (n1 n2 : Addr) (a : Addr) (bs : List Nat) : Prop := H a = some (.lst (bs.map fun b : Nat => V.int (b : Int))) ∧ a ≠ n1 ∧ a ≠ n2
/-- a list that changes leaves the tuples -/
theorem tup_past {H : Hp} {l a : Addr} {xs ys : List V} {o : HO} (hl : H l = some (.lst ys)) (h : H a = some (.tup xs)) : upd H l o a = some (.tup xs) := by
  rw [upd_ne (fun e => by rw [e, hl] at h; cases h)]
  exact h
theorem new_past {H : Hp} {l a : Addr} {u o : HO} (hl : H l = none) (h : H a = some u) : upd H l o a = some u := by
  rw [upd_ne (ne_of_none h hl)]
  exact h
theorem LnAt.lst {H : Hp} {l : Addr} {ys : List V} {o : HO} (hl : H l = some (.lst ys)) : ∀ a p, LnAt H a p → LnAt (upd H l o) a p := fun _ _ h => tup_past hl h
theorem LnAt.new {H : Hp} {l : Addr} {o : HO} (hl : H l = none) : ∀ a p, LnAt H a p → LnAt (upd H l o) a p := fun _ _ h => new_past hl h
theorem LnAt.same {H H' : Hp} (k : Same H H') : ∀ a p, LnAt H a p → LnAt H' a p := fun _ _ h => k _ _ h
theorem RtAt.lst {H : Hp} {l : Addr} {ys : List V} {o : HO} (hl : H l = some (.lst ys)) : ∀ a p, RtAt H a p → RtAt (upd H l o) a p := fun _ _ h => tup_past hl h
theorem RtAt.new {H : Hp} {l : Addr} {o : HO} (hl : H l = none) : ∀ a p, RtAt H a p → RtAt (upd H l o) a p := fun _ _ h => new_past hl h
theorem RtAt.same {H H' : Hp} (k : Same H H') : ∀ a p, RtAt H a p → RtAt H' a p := fun _ _ h => k _ _ h
theorem BgAt.same {H H' : Hp} {n1 n2 : Addr} (k : Same H H') : ∀ a p, BgAt H n1 n2 a p → BgAt H' n1 n2 a p := fun _ _ h => ⟨k _ _ h.1, h.2⟩
theorem BgAt.set1 {H : Hp} {n1 n2 : Addr} {o : HO} : ∀ a p, BgAt H n1 n2 a p → BgAt (upd H n1 o) n1 n2 a p := fun _ _ h => ⟨by rw [upd_ne h.2.1]; exact h.1, h.2⟩
theorem BgAt.set2 {H : Hp} {n1 n2 : Addr} {o : HO} : ∀ a p, BgAt H n1 n2 a p → BgAt (upd H n2 o) n1 n2 a p := fun _ _ h => ⟨by rw [upd_ne h.2.2]; exact h.1, h.2⟩
theorem cheap_mem {L : List Int} {ls : List (Nat × Int)} {b : Nat} (h : b ∈ cheap (rate L ls)) : ∃ p ∈ ls, p.1 = b := by
  obtain ⟨r, hr, rfl⟩ := List.mem_map.mp h
  obtain ⟨p, hp, rfl⟩ := List.mem_map.mp ((List.mem_filter.mp hr).1)
  exact ⟨p, hp, rfl⟩
theorem cheap_mem0 {L : List Int} {ls : List (Nat × Int)} {b : Nat} (h : b ∈ cheap (rate0 L ls)) : ∃ p ∈ ls, p.1 = b := by
  obtain ⟨r, hr, rfl⟩ := List.mem_map.mp h
  obtain ⟨p, hp, rfl⟩ := List.mem_map.mp ((List.mem_filter.mp hr).1)
  exact ⟨p, hp, rfl⟩
theorem cheap_len {L : List Int} {ls : List (Nat × Int)} : (cheap (rate L ls)).length ≤ ls.length := by
  unfold cheap rate
  rw [List.length_map]
  refine Nat.le_trans (List.length_filter_le _ _) ?_
  rw [List.length_map]
  exact Nat.le_refl _
theorem cheap_len0 {L : List Int} {ls : List (Nat × Int)} : (cheap (rate0 L ls)).length ≤ ls.length := by
  unfold cheap rate0
  rw [List.length_map]
  refine Nat.le_trans (List.length_filter_le _ _) ?_
  rw [List.length_map]
  exact Nat.le_refl _
theorem nats_get {bs : List Nat} {i : Nat} {x : V} (h : (bs.map fun b : Nat => V.int (b : Int))[i]? = some x) : ∃ b : Nat, x = .int (b : Int) ∧ bs[i]? = some b ∧ b ∈ bs := by
  rw [List.getElem?_map] at h
  match e : bs[i]? with
  | none => rw [e] at h; cases h
  | some b =>
    rw [e] at h
    exact ⟨b, (Option.some.inj h).symm, rfl, List.mem_of_getElem? e⟩
def nsOf (ns : List Int) : Nat → Int := fun b => ns.getD b 0
/-- a text fit for the width -/
def Fit (w : Int) (ns : List Int) : Prop := ∀ b < ns.length, 1 ≤ nsOf ns b ∧ nsOf ns b ≤ w
theorem nsOf_at {ns : List Int} {b : Nat} (h : b < ns.length) : (ns.map V.int)[b]? = some (.int (nsOf ns b)) := by
  rw [List.getElem?_map, List.getElem?_eq_getElem h]
  unfold nsOf
  rw [List.getD_eq_getElem?_getD, List.getElem?_eq_getElem h]
  rfl
theorem getD_at {L : List Int} {b : Nat} (h : b < L.length) : (L.map V.int)[b]? = some (.int (L.getD b 0)) := nsOf_at h
theorem Fit.pos {w : Int} {ns : List Int} {e : Nat} (h : Fit w ns) (he : e ≤ ns.length) : ∀ b < e, 0 ≤ nsOf ns b := fun b hb => by have := (h b (by omega)).1; omega
theorem Fit.one {w : Int} {ns : List Int} {e : Nat} (h : Fit w ns) (he : e ≤ ns.length) : ∀ b < e, 1 ≤ nsOf ns b := fun b hb => (h b (by omega)).1
def spLines (K : PySem.W.Frag) : Sp := fun vs H Q _ => ∃ (m : Int) (t : Addr) (ns : List Int) (e : Nat), vs = [.int m, .ref t, .int (e : Int)] ∧ SqT K H t (ns.map V.int) ∧ e ≤ ns.length ∧ ns.length ≤ 1000 ∧
  ∀ H' l rs, Same H H' → H l = none → H' l = some (.lst rs) → AllAt (LnAt H') rs (linesF (nsOf ns) e (m + 1)) → Q (.ref l) H'
def spCheapest : Sp := fun vs H Q _ => ∃ (l : Addr) (rs : List V) (ps : List (Int × Nat)), vs = [.ref l] ∧ H l = some (.lst rs) ∧ AllAt (RtAt H) rs ps ∧ ps ≠ [] ∧ ps.length ≤ 1000 ∧
  ∀ H' t c, Same H H' → H' t = some (.tup [.int (least ps), .ref c]) → H c = none → H' c = some (.lst ((cheap ps).map fun b : Nat => V.int (b : Int))) → Q (.ref t) H'
def spClosed (K : PySem.W.Frag) : Sp := fun vs H Q _ => ∃ (m : Int) (t : Addr) (ns : List Int), vs = [.int m, .ref t] ∧ SqT K H t (ns.map V.int) ∧ Fit m ns ∧ 1 ≤ m ∧ m ≤ 1000000000 ∧ ns.length ≤ 1000 ∧
  ∀ H' r c bl rs, Same H H' → H' r = some (.tup [.ref c, .ref bl]) → H' c = some (.lst ((cs (nsOf ns) m ns.length).map V.int)) → H' bl = some (.lst rs) → AllAt (BgAt H' c bl) rs (begs (nsOf ns) m ns.length) → H c = none → H bl = none → Q (.ref r) H'
def spLast (K : PySem.W.Frag) : Sp := fun vs H Q _ => ∃ (m : Int) (t c : Addr) (ns : List Int), vs = [.int m, .ref t, .ref c] ∧ SqT K H t (ns.map V.int) ∧ Fit m ns ∧ 1 ≤ m ∧ m ≤ 1000000000 ∧ ns.length ≤ 1000 ∧ 0 < ns.length ∧ H c = some (.lst ((cs (nsOf ns) m ns.length).map V.int)) ∧
  ∀ H' l, Same H H' → H l = none → H' l = some (.lst ((lastB (nsOf ns) m ns.length).map fun b : Nat => V.int (b : Int))) → Q (.ref l) H'
def spCount (K : PySem.W.Frag) : Sp := fun vs H Q _ => ∃ (m : Int) (t : Addr) (ns : List Int), vs = [.int m, .ref t] ∧ SqT K H t (ns.map V.int) ∧ Fit m ns ∧ 1 ≤ m ∧ m ≤ 1000000000 ∧ ns.length ≤ 1000 ∧ 0 < ns.length ∧
  ∀ H', Same H H' → Q (.int (many (nsOf ns) m ns.length)) H'
def spCosts (K : PySem.W.Frag) : Sp := fun vs H Q _ => ∃ (m : Int) (t : Addr) (ns : List Int), vs = [.int m, .ref t] ∧ SqT K H t (ns.map V.int) ∧ Fit m ns ∧ 1 ≤ m ∧ m ≤ 1000000000 ∧ ns.length ≤ 1000 ∧
  ∀ H' r c bl, Same H H' → H' r = some (.tup [.ref c, bl]) → H' c = some (.lst ((cs (nsOf ns) m ns.length).map V.int)) → H c = none → Q (.ref r) H'
def spLastAt (K : PySem.W.Frag) : Sp := fun vs H Q _ => ∃ (m : Int) (t c : Addr) (ns L : List Int), vs = [.int m, .ref t, .ref c] ∧ SqT K H t (ns.map V.int) ∧ Fit m ns ∧ 1 ≤ m ∧ ns.length ≤ 1000 ∧ 0 < ns.length ∧ SqL K H c (L.map V.int) ∧ ns.length < L.length ∧
  ∀ (b : Nat), b < ns.length → L.getD b 0 = least (rate0 L (linesF (nsOf ns) ns.length (m + 1))) → Q (.int (b : Int)) H
end SL

set_option Elab.async false
set_option linter.all false
set_option maxRecDepth 100000
set_option maxHeartbeats 4000000
/-! Own layer 8: (x,) * k for every k from 1. -/
namespace SL
open PySem PySem.Spec PyProof.Rows L2
theorem tuple_mul1 (l : Addr) (items : Array Value) (n : Nat) (dd : Option Addr) (sl : Array (Option Value)) (u : Tok) :
    Meets (Builtin.«tuple.__mul__» ⟨[.ref l, .int 1 u], []⟩) (fun _ R s => s.heap.get? l = some { cls := .type "tuple", dict := dd, data := .seq items n, slots := sl } ∧ R (.ok (.ret (Value.ref l))) s) :=
  .of_wp fun prog w A R s h => by
    obtain ⟨hp, g, d, tk, os⟩ := s
    obtain ⟨hl, h⟩ := h
    have f1 := AutoSeq1.idx_int
    wp_walk using wpAny_loadPart' hl
    exact ⟨_, rfl, h⟩
section
variable {X : Cx}
/-- (z,) * k -/
def rRepC (K : PySem.W.Frag) : R2 := fun x y H Q => ∃ l k z, x = .ref l ∧ y = .int k ∧ SqT K H l [z] ∧ 1 ≤ k ∧ k ≤ 1000 ∧ ∀ H' c, Same H H' → SqT K H' c (List.replicate k.toNat z) → Q (.ref c) H'
theorem op_repC : OpR X (binaryOp .Mult) (rRepC X.K) := by
  intro pins s σ H x y v u Q I rx ry ⟨l, k, z, ex, ey, hT, h1, h3, q⟩
  by_cases h2 : 2 ≤ k
  · exact op_repB pins s σ H x y v u Q I rx ry ⟨l, k, z, ex, ey, hT, h2, h3, q⟩
  · obtain rfl : k = 1 := by omega
    subst ex ey
    cases rx
    obtain ⟨t, rfl⟩ := ry
    obtain ⟨its, r, ⟨⟨cls, dd, data, sl⟩, ho, hc, n, hd⟩, hs⟩ := I.tuple hT
    simp only at hc hd
    subst hc hd
    refine wpAny_binaryOp_repeat_ref (T := "tuple") (U := "int") (by decide) ⟨_, ho, rfl⟩ (fun s' => typeIs_int s' 1 t) noFill_tuple_mul F.fills_int_mul F.slot_int_rmul repeat_tuple F.slot_int_index.lookup
      (call_meets F.slot_int_rmul (typeIs_int s 1 t) F.entry_int_rmul (F.args_int_rmul_2 _ _) (int_rmul_tuple 1 t l its.toArray n dd sl)
        ⟨ho, rfl, ⟨_, ho, rfl⟩, call_meets F.slot_tuple_mul ⟨_, ho, rfl⟩ F.entry_tuple_mul (F.args_tuple_mul_2 _ _) (tuple_mul1 l its.toArray n dd sl t) ⟨ho, ?_⟩⟩)
    exact ⟨.ref l, H, I, rfl, q H l (Same.refl H) hT⟩
end
theorem atI_end {α : Type} {xs : List α} {n : Nat} {v : α} (h : xs.length = n + 1) (e : xs[n]? = some v) : atI xs (-1) = some v := by
  unfold atI ixN
  rw [if_neg (by decide), if_pos (by omega), h]
  show xs[((-1 : Int) + ((n + 1 : Nat) : Int)).toNat]? = some v
  rw [show ((-1 : Int) + ((n + 1 : Nat) : Int)).toNat = n by omega]
  exact e
def LeastAt (H : Hp) (v : V) (ps : List (Int × Nat)) : Prop := (ps = [] ∧ v = .non) ∨ (ps ≠ [] ∧ ∃ (a : Addr) (low : Int), v = .ref a ∧ H a = some (.tup [.int (least ps), .int low]))
def LeastIx (n : Nat) (L : List Int) (v : V) (ps : List (Int × Nat)) : Prop := (ps = [] ∧ v = .non) ∨ (ps ≠ [] ∧ ∃ b : Nat, v = .int (b : Int) ∧ b < n ∧ L.getD b 0 = least ps)
theorem rate_push (L : List Int) (ls : List (Nat × Int)) (p : Nat × Int) : rate L (ls ++ [p]) = rate L ls ++ [(L.getD p.1 0 + p.2 ^ 2, p.1)] := by
  unfold rate
  rw [List.map_append]
  rfl
theorem rate0_push (L : List Int) (ls : List (Nat × Int)) (p : Nat × Int) : rate0 L (ls ++ [p]) = rate0 L ls ++ [(L.getD p.1 0, p.1)] := by
  unfold rate0
  rw [List.map_append]
  rfl
theorem rate_nil {L : List Int} {ls : List (Nat × Int)} : rate L ls = [] ↔ ls = [] := List.map_eq_nil_iff
theorem rate0_nil {L : List Int} {ls : List (Nat × Int)} : rate0 L ls = [] ↔ ls = [] := List.map_eq_nil_iff
theorem push_ne {α : Type} (l : List α) (x : α) : l ++ [x] ≠ [] := fun h => by cases l <;> cases h
end SL

set_option Elab.async false
set_option linter.all false
set_option maxRecDepth 100000
set_option maxHeartbeats 4000000
/-! Own layer 9: tuple(zip(a, b)) and tuple(list(zip(a, b))) of tuples. -/
namespace SL
open PySem PySem.Spec PyProof.Rows L2

section
variable {prog : Program} {w : World} {A : Around} {E : Value → Shared → Prop} {s : Shared}
/-- the next pair, the pair before it is still held -/
theorem zheld_item {z TI TO T i1 i2 l1 l2 : Addr} {f : Bool} {oT : Obj} {k1 k2 : Nat} {xs ys : Array Value} {x y : Value} {Q : Option Value → Shared → Prop} (D : ZipApart z TI TO i1 i2 l1 l2)
    (hz : IsZipHeld s.heap z TI TO T f) (hT : s.heap.get? T = some oT) (hTI : IsPair s.heap TI (.ref i1) (.ref i2))
    (h1 : s.heap.IsTupleIter i1 l1 k1) (h2 : s.heap.IsTupleIter i2 l2 k2) (hl1 : s.heap.IsTuple l1 xs) (hl2 : s.heap.IsTuple l2 ys) (hx : xs[k1]? = some x) (hy : ys[k2]? = some y)
    (hQ : ∀ h', IsZipHeld h' z TI TO T true → h'.IsTupleIter i1 l1 (k1 + 1) → h'.IsTupleIter i2 l2 (k2 + 1) → IsPair h' s.heap.objs.size x y →
      (∀ c o, c ≠ z → c ≠ i1 → c ≠ i2 → s.heap.get? c = some o → h'.get? c = some o) → Q (some (.ref s.heap.objs.size)) { s with heap := h' }) :
    wpAny (model prog w) A (pyNext (.ref z)) Q E s := by
  have hTy : s.TypeIs (.ref z) "zip" := ⟨_, hz, rfl⟩
  unfold pyNext
  refine wpAny_bind (wpAny_attempt (wpAny_callSpecial?_slot (name := Str.ofString "__next__") hTy F.slot_zip_next
    (wpAny_call_entry F.slot_zip_next hTy F.entry_zip_next ?_ (F.args_zip_next_1 _))))
  show wpAny _ _ (field (.ref z) 2 >>= _) _ _ _
  refine wpAny_bind (wpAny_field hz rfl (x := .bool false) rfl ?_)
  show wpAny _ _ (field (.ref z) 3 >>= _) _ _ _
  refine wpAny_bind (wpAny_field hz rfl (x := .ref TI) rfl ?_)
  refine wpAny_bind (wpAny_seqItems hTI rfl ?_)
  show wpAny _ _ (Builtin.SmallTypes.ownedTupleIsFree (.ref z) >>= _) _ _ _
  refine wpAny_bind (wpAny_tupleHeld_zip hz hT fun h₁ hz₁ hs₁ => ?_)
  simp only [Bool.false_eq_true, if_false]
  refine wpAny_bind ?_
  rw [← Array.forIn_toList]
  simp only [List.forIn_cons, List.forIn_nil]
  refine wpAny_bind (wpAny_bind (wpAny_holding ?_))
  show wpAny _ _ (Builtin.SmallTypes.nextOf (.ref i1) >>= _) _ _ _
  refine wpAny_bind (RZ.nextOf_tuple_item (s := { s with heap := h₁ }) (h1.extBut hs₁.extBut D.i1z) (hl1.extBut hs₁.extBut D.l1z) hx fun h₂ h1₂ hs₂ => wpAny_pure ?_)
  refine wpAny_pure ?_
  refine wpAny_bind (wpAny_bind (wpAny_holding ?_))
  show wpAny _ _ (Builtin.SmallTypes.nextOf (.ref i2) >>= _) _ _ _
  refine wpAny_bind (RZ.nextOf_tuple_item (s := { s with heap := h₂ }) ((h2.extBut hs₁.extBut D.i2z).extBut hs₂.extBut D.i12.symm) ((hl2.extBut hs₁.extBut D.l2z).extBut hs₂.extBut D.l2i1) hy fun h₃ h2₃ hs₃ => wpAny_pure ?_)
  refine wpAny_pure (wpAny_pure ?_)
  show wpAny _ _ (newTuple [x, y] >>= _) _ _ _
  refine wpAny_bind (wpAny_newTuple ?_)
  have hsz : h₃.objs.size = s.heap.objs.size := by rw [hs₃.1, hs₂.1, hs₁.1]
  have hz₃ : IsZipHeld h₃ z TI TO T true := hs₃.extBut _ _ D.i2z.symm (hs₂.extBut _ _ D.i1z.symm hz₁)
  have hk : ∀ c o, c ≠ z → c ≠ i1 → c ≠ i2 → s.heap.get? c = some o → h₃.get? c = some o := fun c o c1 c2 c3 e => hs₃.extBut _ _ c3 (hs₂.extBut _ _ c2 (hs₁.extBut _ _ c1 e))
  have h1₃ : h₃.IsTupleIter i1 l1 (k1 + 1) := h1₂.extBut hs₃.extBut D.i12
  refine wpAny_pure ⟨_, rfl, wpAny_pure ?_⟩
  show Q (some (.ref h₃.objs.size)) _
  have hp : IsPair (h₃.push { cls := .type "tuple", data := .seq #[x, y] }) h₃.objs.size x y := Heap.get?_push_size _ rfl
  rw [hsz] at hp ⊢
  exact hQ _ (Heap.get?_push_of_some _ hz₃) (h1₃.at fun o e => Heap.get?_push_of_some _ e) (h2₃.at fun o e => Heap.get?_push_of_some _ e) hp fun c o c1 c2 c3 e => Heap.get?_push_of_some _ (hk c o c1 c2 c3 e)
/-- one of the two is at its end -/
theorem zheld_end {z TI TO T i1 i2 l1 l2 : Addr} {f : Bool} {oT : Obj} {k1 k2 : Nat} {xs ys : Array Value} {Q : Option Value → Shared → Prop} (hh : A.handled = none) (D : ZipApart z TI TO i1 i2 l1 l2)
    (hz : IsZipHeld s.heap z TI TO T f) (hT : s.heap.get? T = some oT) (hTI : IsPair s.heap TI (.ref i1) (.ref i2))
    (h1 : s.heap.IsTupleIter i1 l1 k1) (h2 : s.heap.IsTupleIter i2 l2 k2) (hl1 : s.heap.IsTuple l1 xs) (hl2 : s.heap.IsTuple l2 ys) (hend : xs[k1]? = none ∨ ys[k2]? = none)
    (hQ : ∀ h', (∀ c o, c ≠ z → c ≠ i1 → c ≠ i2 → s.heap.get? c = some o → h'.get? c = some o) → Q none { s with heap := h' }) : wpAny (model prog w) A (pyNext (.ref z)) Q E s := by
  have hTy : s.TypeIs (.ref z) "zip" := ⟨_, hz, rfl⟩
  unfold pyNext
  refine wpAny_bind (wpAny_attempt (wpAny_callSpecial?_slot (name := Str.ofString "__next__") hTy F.slot_zip_next
    (wpAny_call_entry F.slot_zip_next hTy F.entry_zip_next ?_ (F.args_zip_next_1 _))))
  show wpAny _ _ (field (.ref z) 2 >>= _) _ _ _
  refine wpAny_bind (wpAny_field hz rfl (x := .bool false) rfl ?_)
  show wpAny _ _ (field (.ref z) 3 >>= _) _ _ _
  refine wpAny_bind (wpAny_field hz rfl (x := .ref TI) rfl ?_)
  refine wpAny_bind (wpAny_seqItems hTI rfl ?_)
  show wpAny _ _ (Builtin.SmallTypes.ownedTupleIsFree (.ref z) >>= _) _ _ _
  refine wpAny_bind (wpAny_tupleHeld_zip hz hT fun h₁ hz₁ hs₁ => ?_)
  simp only [Bool.false_eq_true, if_false]
  refine wpAny_bind ?_
  rw [← Array.forIn_toList]
  simp only [List.forIn_cons, List.forIn_nil]
  refine wpAny_bind (wpAny_bind (wpAny_holding ?_))
  show wpAny _ _ (Builtin.SmallTypes.nextOf (.ref i1) >>= _) _ _ _
  cases hx : xs[k1]? with
  | none =>
    refine wpAny_bind (RZ.nextOf_tuple_end (s := { s with heap := h₁ }) hh (h1.extBut hs₁.extBut D.i1z) (hl1.extBut hs₁.extBut D.l1z) hx fun h₂ e hs₂ he => ?_)
    obtain ⟨o, ho, hc⟩ := he
    refine wpAny_bind (wpAny_isInstance (T := "StopIteration") (b := true) ⟨o, ho, hc⟩ isSubtype_stop ?_)
    exact wpAny_pure (hQ _ fun c o c1 c2 _ x => hs₂ _ _ c2 (hs₁.extBut _ _ c1 x))
  | some x =>
    have hy : ys[k2]? = none := by rcases hend with h | h; rw [hx] at h; cases h; exact h
    refine wpAny_bind (RZ.nextOf_tuple_item (s := { s with heap := h₁ }) (h1.extBut hs₁.extBut D.i1z) (hl1.extBut hs₁.extBut D.l1z) hx fun h₂ h1₂ hs₂ => wpAny_pure ?_)
    refine wpAny_pure ?_
    refine wpAny_bind (wpAny_bind (wpAny_holding ?_))
    show wpAny _ _ (Builtin.SmallTypes.nextOf (.ref i2) >>= _) _ _ _
    refine wpAny_bind (RZ.nextOf_tuple_end (s := { s with heap := h₂ }) hh ((h2.extBut hs₁.extBut D.i2z).extBut hs₂.extBut D.i12.symm) ((hl2.extBut hs₁.extBut D.l2z).extBut hs₂.extBut D.l2i1) hy fun h₃ e hs₃ he => ?_)
    obtain ⟨o, ho, hc⟩ := he
    refine wpAny_bind (wpAny_isInstance (T := "StopIteration") (b := true) ⟨o, ho, hc⟩ isSubtype_stop ?_)
    exact wpAny_pure (hQ _ fun c o c1 c2 c3 x => hs₃ _ _ c3 (hs₂.extBut _ _ c2 (hs₁.extBut _ _ c1 x)))
end

def PrAt (H : Hp) (a : Addr) (p : V × V) : Prop := H a = some (.tup [p.1, p.2])
/-- the zip between two turns -/
def ZipSt (h : Heap) (z TI TO i1 i2 l1 l2 : Addr) (ch : List Addr) (i : Nat) : Prop :=
  IsPair h TI (.ref i1) (.ref i2) ∧ h.IsTupleIter i1 l1 i ∧ h.IsTupleIter i2 l2 i ∧ (∃ o, h.get? TO = some o) ∧
    ((IsZip h z TI TO .none ∧ ∃ x y, IsPair h TO x y) ∨ ∃ (T : Addr) (f : Bool) (oT : Obj), IsZipHeld h z TI TO T f ∧ h.get? T = some oT ∧ T ∉ ch)
theorem ZipSt.keep {h h' : Heap} {z TI TO i1 i2 l1 l2 S : Addr} {ch : List Addr} {i : Nat} (st : ZipSt h z TI TO i1 i2 l1 l2 ch i) (k : ∀ b o, b ≠ S → h.get? b = some o → h'.get? b = some o) (hS : S ∈ ch) (n : S ≠ z ∧ S ≠ TI ∧ S ≠ TO ∧ S ≠ i1 ∧ S ≠ i2) : ZipSt h' z TI TO i1 i2 l1 l2 ch i := by
  obtain ⟨n1, n2, n3, n4, n5⟩ := n
  obtain ⟨a, b, c, ⟨oo, e0⟩, d⟩ := st
  refine ⟨k _ _ n2.symm a, b.at fun o e => k _ _ n4.symm e, c.at fun o e => k _ _ n5.symm e, ⟨oo, k _ _ n3.symm e0⟩, ?_⟩
  rcases d with ⟨d1, x, y, d2⟩ | ⟨T, f, oT, d1, d2, d3⟩
  · exact .inl ⟨k _ _ n1.symm d1, x, y, k _ _ n3.symm d2⟩
  · exact .inr ⟨T, f, oT, k _ _ n1.symm d1, k _ _ (fun e => d3 (e ▸ hS)) d2, d3⟩
theorem AllAt.push2 {H : Hp} {rs : List V} {xs ys : List V} {i : Nat} {x y : V} {a : Addr} (h : AllAt (PrAt H) rs ((xs.zip ys).take i)) (hx : xs[i]? = some x) (hy : ys[i]? = some y) (k : PrAt H a (x, y)) : AllAt (PrAt H) (rs ++ [.ref a]) ((xs.zip ys).take (i + 1)) := by
  have e : (xs.zip ys)[i]? = some (x, y) := List.getElem?_zip_eq_some.mpr ⟨hx, hy⟩
  rw [take_succ e]
  exact h.push k
theorem zip_loop {X : Cx} {pins : List (Addr × Obj)} {σ : L2.St} {A : Around} (hh : A.handled = none) {z TI TO i1 i2 a b S : Addr} (D : ZipApart z TI TO i1 i2 a b) (nS : S ≠ z ∧ S ≠ TI ∧ S ≠ TO ∧ S ≠ i1 ∧ S ≠ i2) {xs ys : List V} {res : Value} {R : Result → Shared → Prop} (hn : min xs.length ys.length ≤ sizeLine) :
    ∀ (k i : Nat) (s : Shared) (H : Hp) (acc : Array Value) (c : Nat) (rs : List V), min xs.length ys.length - i = k → i ≤ min xs.length ys.length → Inv X pins σ H s → SqT X.K H a xs → SqT X.K H b ys → ZipSt s.heap z TI TO i1 i2 a b [S, z, TI, TO, i1, i2] i →
      (∀ b ∈ [S, z, TI, TO, i1, i2], FpOk X pins H b) → s.heap.get? S = some { cls := .type "list", dict := none, data := .seq acc c, slots := #[] } → Vals rs acc.toList → AllAt (PrAt H) rs ((xs.zip ys).take i) →
      (∀ s' H' acc' c' rs', Inv X pins σ H' s' → Same H H' → s'.heap.get? S = some { cls := .type "list", dict := none, data := .seq acc' c', slots := #[] } → Vals rs' acc'.toList → AllAt (PrAt H') rs' (xs.zip ys) → R (.ok (.ret res)) s') →
      codeAny (model X.prog X.w) A (.builtin "list.extend.loop" ⟨[.ref S, .ref z, res], []⟩) R s := by
  intro k
  induction k with
  | zero =>
    intro i s H acc c rs hk hi I hqx hqy st hf hS rv hA hR
    obtain ⟨n1, n2, n3, n4, n5⟩ := nS
    have hin : i = min xs.length ys.length := by omega
    obtain ⟨its, rvx, p, _⟩ := I.tuple hqx
    obtain ⟨its2, rvy, p2, _⟩ := I.tuple hqy
    have l1 := rvx.length
    have l2 := rvy.length
    have hend : its.toArray[i]? = none ∨ its2.toArray[i]? = none := by
      by_cases h : xs.length ≤ ys.length
      · exact .inl (by simp; omega)
      · exact .inr (by simp; omega)
    have hall : (xs.zip ys).take i = xs.zip ys := List.take_of_length_le (by rw [List.length_zip]; omega)
    rw [hall] at hA
    obtain ⟨hTI, h1, h2, _, hz⟩ := st
    have fin : ∀ h' : Heap, (∀ b o, b ∉ [z, TI, TO, i1, i2] → s.heap.get? b = some o → h'.get? b = some o) → R (.ok (.ret res)) { s with heap := h' } := fun h' kp => by
      refine hR _ H acc c rs (I.turnedL (t' := s.toks) (ch := [z, TI, TO, i1, i2]) kp fun b hb => hf b (List.mem_cons_of_mem _ hb)) (Same.refl H) (kp _ _ ?_ hS) rv hA
      simp [n1, n2, n3, n4, n5]
    refine codeAny_builtin F.entry_extend_loop ?_
    rw [Around.under_plainId F.plain_extend_loop _]
    show wpAny _ A.in1 (pyNext (.ref z) >>= _) _ _ s
    rcases hz with ⟨hz, x0, y0, hTO⟩ | ⟨T, f, oT, hz, hT, hTc⟩
    · refine wpAny_bind (RZ.pyNext_zipT_end (A := A.in1) hh D hz hTI hTO h1 h2 p p2 hend fun h' hk => wpAny_pure (fin h' fun b o hb e => ?_))
      exact hk b o (fun q => hb (by simp [q])) (fun q => hb (by simp [q])) (fun q => hb (by simp [q])) (fun q => hb (by simp [q])) e
    · refine wpAny_bind (zheld_end (A := A.in1) hh D hz hT hTI h1 h2 p p2 hend fun h' hk => wpAny_pure (fin h' fun b o hb e => ?_))
      exact hk b o (fun q => hb (by simp [q])) (fun q => hb (by simp [q])) (fun q => hb (by simp [q])) e
  | succ k ih =>
    intro i s H acc c rs hk hi I hqx hqy st hf hS rv hA hR
    have hlx : i < xs.length := by omega
    have hly : i < ys.length := by omega
    obtain ⟨its, rvx, p, _⟩ := I.tuple hqx
    obtain ⟨its2, rvy, p2, _⟩ := I.tuple hqy
    obtain ⟨u, hu, ru⟩ := rvx.get (List.getElem?_eq_getElem hlx)
    obtain ⟨u2, hu2, ru2⟩ := rvy.get (List.getElem?_eq_getElem hly)
    have st0 := st
    obtain ⟨hTI, h1, h2, ⟨oTO, eTO⟩, hz⟩ := st
    have hSlt := Heap.lt_size hS
    have hal : rs.length = acc.size := by rw [rv.length, Array.length_toList]
    have hai : rs.length = i := by rw [hA.1, List.length_take, List.length_zip]; omega
    have next : ∀ h' : Heap, (∀ b o, b ∉ [z, TI, TO, i1, i2] → s.heap.get? b = some o → h'.get? b = some o) → IsPair h' s.heap.objs.size u u2 → ZipSt h' z TI TO i1 i2 a b [S, z, TI, TO, i1, i2] (i + 1) →
        wpAny (model X.prog X.w) A.in1 (updateSeq S (·.push (.ref s.heap.objs.size))) (fun _ s' => codeAny (model X.prog X.w) A (.builtin "list.extend.loop" ⟨[.ref S, .ref z, res], []⟩) R s') (fun e s' => R (.error e) s') { s with heap := h' } := fun h' kp hT st' => by
      have hS' := kp S _ (by simp [nS]) hS
      have new : ObjOk X.prog X.w (upd H s.heap.objs.size (.tup [xs[i], ys[i]])) h' s.heap.objs.size (.tup [xs[i], ys[i]]) :=
        ⟨by show 2 ≤ sizeLine; decide, [u, u2], .cons ru (.cons ru2 .nil), ⟨_, hT, rfl, _, rfl⟩⟩
      have I1 : Inv X pins σ (upd H s.heap.objs.size (.tup [xs[i], ys[i]])) { s with heap := h' } :=
        I.turnedNew (t' := s.toks) (ch := [z, TI, TO, i1, i2]) kp (fun b hb => hf b (List.mem_cons_of_mem _ hb)) (Nat.le_refl _) new
      have hfr : H s.heap.objs.size = none := I.hok.fresh (Nat.le_refl _)
      have fpk : ∀ b ∈ [S, z, TI, TO, i1, i2], FpOk X pins (upd H s.heap.objs.size (.tup [xs[i], ys[i]])) b := fun b hb => by
        have q := hf b hb
        refine ⟨?_, q.2⟩
        rw [upd_ne ?_]
        · exact q.1
        · have lt : b < s.heap.objs.size := by
            obtain ⟨_, e1, _⟩ := id h1
            obtain ⟨_, e2, _⟩ := id h2
            have ez : z < s.heap.objs.size := by rcases hz with ⟨e, _⟩ | ⟨_, _, _, e, _⟩ <;> exact Heap.lt_size e
            have e' : b = S ∨ b = z ∨ b = TI ∨ b = TO ∨ b = i1 ∨ b = i2 := by simpa using hb
            rcases e' with q | q | q | q | q | q
            · rw [q]; exact hSlt
            · rw [q]; exact ez
            · rw [q]; exact Heap.lt_size hTI
            · rw [q]; exact Heap.lt_size eTO
            · rw [q]; exact Heap.lt_size e1
            · rw [q]; exact Heap.lt_size e2
          exact Nat.ne_of_lt lt
      refine wpAny_updateSeq hS' rfl ?_ (by rw [← hal, hai]; omega) (by show (acc.push _).size ≤ sizeLine + 1; rw [Array.size_push, ← hal, hai]; omega)
      refine ih (i + 1) _ (upd H s.heap.objs.size (.tup [xs[i], ys[i]])) (acc.push (.ref s.heap.objs.size)) _ (rs ++ [.ref s.heap.objs.size]) (by omega) (by omega)
        (I1.turnedL (t' := s.toks) (ch := [S]) (fun b o hb e => ?_) fun b hb => fpk b (by rw [List.mem_singleton.mp hb]; exact List.mem_cons_self ..)) (Same.tup (Same.new hfr) hqx) (Same.tup (Same.new hfr) hqy)
        (st'.keep (fun b o hb e => ?_) (List.mem_cons_self ..) nS) fpk (Heap.get?_update_self _ hS' rfl) ?_ ((hA.mono fun a p (h : PrAt H a p) => (new_past hfr h : PrAt _ a p)).push2 (List.getElem?_eq_getElem hlx) (List.getElem?_eq_getElem hly) upd_same)
        fun s' H' acc' c' rs' I' sm hS'' rv' hA' => hR s' H' acc' c' rs' I' (same_tr (Same.new hfr) sm) hS'' rv' hA'
      · exact (Heap.get?_update_other _ _ (Ne.symm (fun e => hb (List.mem_singleton.mpr e)))).trans e
      · exact (Heap.get?_update_other _ _ (Ne.symm hb)).trans e
      · rw [Array.toList_push]
        exact rv.append (.cons rfl .nil)
    have nf : ∀ b ∈ [S, z, TI, TO, i1, i2], b < s.heap.objs.size := fun b hb => by
      obtain ⟨_, e1, _⟩ := id h1
      obtain ⟨_, e2, _⟩ := id h2
      have ez : z < s.heap.objs.size := by rcases hz with ⟨e, _⟩ | ⟨_, _, _, e, _⟩ <;> exact Heap.lt_size e
      have e' : b = S ∨ b = z ∨ b = TI ∨ b = TO ∨ b = i1 ∨ b = i2 := by simpa using hb
      rcases e' with q | q | q | q | q | q
      · rw [q]; exact hSlt
      · rw [q]; exact ez
      · rw [q]; exact Heap.lt_size hTI
      · rw [q]; exact Heap.lt_size eTO
      · rw [q]; exact Heap.lt_size e1
      · rw [q]; exact Heap.lt_size e2
    have nT : s.heap.objs.size ∉ [S, z, TI, TO, i1, i2] := fun hm => Nat.lt_irrefl _ (nf _ hm)
    refine codeAny_builtin F.entry_extend_loop ?_
    rw [Around.under_plainId F.plain_extend_loop _]
    show wpAny _ A.in1 (pyNext (.ref z) >>= _) _ _ s
    rcases hz with ⟨hz, x0, y0, hTO⟩ | ⟨T, f, oT, hz, hT, hTc⟩
    · refine wpAny_bind (RZ.pyNext_zipT_item (A := A.in1) D hz hTI hTO h1 h2 p p2 (x := u) (y := u2) (by simpa using hu) (by simpa using hu2) fun h' z' TO' h1' h2' hT hsz hk => ?_)
      have kp : ∀ b o, b ∉ [z, TI, TO, i1, i2] → s.heap.get? b = some o → h'.get? b = some o := fun b o hb e => hk b o (fun q => hb (by simp [q])) (fun q => hb (by simp [q])) (fun q => hb (by simp [q])) (fun q => hb (by simp [q])) e
      show wpAny _ A.in1 (updateSeq S (·.push (.ref s.heap.objs.size)) >>= _) _ _ _
      refine wpAny_bind (thn (next h' kp hT ⟨?_, h1', h2', ⟨_, TO'⟩, .inr ⟨s.heap.objs.size, false, _, z', hT, nT⟩⟩) fun _ s' q => wpAny_pure ⟨plainId_quiet F.plain_extend_loop _, q⟩)
      exact hk _ _ D.TIz D.TITO D.TIi1 D.TIi2 hTI
    · refine wpAny_bind (zheld_item (A := A.in1) D hz hT hTI h1 h2 p p2 (x := u) (y := u2) (by simpa using hu) (by simpa using hu2) fun h' z' h1' h2' hT2 hk => ?_)
      have kp : ∀ b o, b ∉ [z, TI, TO, i1, i2] → s.heap.get? b = some o → h'.get? b = some o := fun b o hb e => hk b o (fun q => hb (by simp [q])) (fun q => hb (by simp [q])) (fun q => hb (by simp [q])) e
      show wpAny _ A.in1 (updateSeq S (·.push (.ref s.heap.objs.size)) >>= _) _ _ _
      refine wpAny_bind (thn (next h' kp hT2 ⟨?_, h1', h2', ⟨_, hk _ _ D.TOz D.TOi1 D.TOi2 eTO⟩, .inr ⟨T, true, _, z', hk _ _ ?_ ?_ ?_ hT, hTc⟩⟩) fun _ s' q => wpAny_pure ⟨plainId_quiet F.plain_extend_loop _, q⟩)
      · exact hk _ _ D.TIz D.TIi1 D.TIi2 hTI
      · exact fun e => hTc (by simp [e])
      · exact fun e => hTc (by simp [e])
      · exact fun e => hTc (by simp [e])

theorem zip_nolen : typeLookup (.type "zip") "__len__" = pure none := by rw [typeLookup_type, builtinLookup_eq_fast]; kernel_rfl
theorem zip_nohint : typeLookup (.type "zip") "__length_hint__" = pure none := by rw [typeLookup_type, builtinLookup_eq_fast]; kernel_rfl
/-- a zip that has given nothing yet -/
structure ZipNew (X : Cx) (pins : List (Addr × Obj)) (H : Hp) (h : Heap) (z TI TO i1 i2 a b : Addr) : Prop where
  D : ZipApart z TI TO i1 i2 a b
  hz : IsZip h z TI TO .none
  hTI : IsPair h TI (.ref i1) (.ref i2)
  hTO : ∃ x y, IsPair h TO x y
  h1 : h.IsTupleIter i1 a 0
  h2 : h.IsTupleIter i2 b 0
  fp : ∀ b ∈ [z, TI, TO, i1, i2], FpOk X pins H b
theorem ZipNew.lt {X : Cx} {pins : List (Addr × Obj)} {H : Hp} {h : Heap} {z TI TO i1 i2 a b : Addr} (N : ZipNew X pins H h z TI TO i1 i2 a b) : ∀ b ∈ [z, TI, TO, i1, i2], b < h.objs.size := fun b hb => by
  obtain ⟨_, e1, _⟩ := N.h1
  obtain ⟨_, e2, _⟩ := N.h2
  obtain ⟨_, _, e3⟩ := N.hTO
  have e' : b = z ∨ b = TI ∨ b = TO ∨ b = i1 ∨ b = i2 := by simpa using hb
  rcases e' with q | q | q | q | q
  · rw [q]; exact Heap.lt_size N.hz
  · rw [q]; exact Heap.lt_size N.hTI
  · rw [q]; exact Heap.lt_size e3
  · rw [q]; exact Heap.lt_size e1
  · rw [q]; exact Heap.lt_size e2
section
variable {X : Cx} {pins : List (Addr × Obj)} {σ : L2.St} {A : Around} {H : Hp} {s : Shared} {z TI TO i1 i2 a b : Addr} {xs ys : List V}
/-- what remains to do with the list at S, as yet empty -/
theorem zip_extend (hh : A.handled = none) (N : ZipNew X pins H s.heap z TI TO i1 i2 a b) (hn : min xs.length ys.length ≤ sizeLine) (I : Inv X pins σ H s) (hqx : SqT X.K H a xs) (hqy : SqT X.K H b ys) {S : Addr} (hS : s.heap.get? S = some { cls := .type "list", data := .seq #[] }) (fS : FpOk X pins H S) (nS : S ≠ z ∧ S ≠ TI ∧ S ≠ TO ∧ S ≠ i1 ∧ S ≠ i2) {res : Value} {R : Result → Shared → Prop} {Qf : Fin → Shared → Prop} {EE : Value → Shared → Prop}
    (hF : ∀ c' s', c'.quiet = true → codeAny (model X.prog X.w) A c' R s' → Qf (.again c') s')
    (hR : ∀ s' H' acc' c' rs', Inv X pins σ H' s' → Same H H' → s'.heap.get? S = some { cls := .type "list", dict := none, data := .seq acc' c', slots := #[] } → Vals rs' acc'.toList → AllAt (PrAt H') rs' (xs.zip ys) → R (.ok (.ret res)) s') :
    wpAny (model X.prog X.w) A.in1 (Builtin.List.listExtendWith (.ref S) (.ref z) res) Qf EE s := by
  have hT : s.TypeIs (.ref z) "zip" := ⟨_, N.hz, rfl⟩
  unfold Builtin.List.listExtendWith
  refine wpAny_bind (wpAny_typeOf hT ?_)
  have h1 : Builtin.List.listSameRef (.ref S) (.ref z) = false := by simp [Builtin.List.listSameRef, nS.1]
  have h2 : (Value.type "zip" == Value.type "list") = false := by decide
  have h3 : (Value.type "zip" == Value.type "tuple") = false := by decide
  simp only [h1, h2, h3, Bool.or_false, Bool.false_eq_true, if_false]
  refine wpAny_bind (wpAny_pyIter_zip N.hz ?_)
  refine wpAny_bind (wpAny_holding ?_)
  unfold Builtin.List.listLengthHint
  refine wpAny_bind (wpAny_specialOf hT zip_nolen ?_)
  show wpAny _ A.in1 (specialOf (Value.ref z) (Str.ofString "__length_hint__") >>= _) _ _ _
  refine wpAny_bind (wpAny_specialOf hT zip_nohint ?_)
  refine wpAny_pure ?_
  show wpAny _ A.in1 (rule "list.extend.makes-room" >>= fun _ => Builtin.List.listTouch (.ref S) >>= fun _ =>
    again (.builtin "list.extend.loop" ⟨[.ref S, .ref z, res], []⟩)) _ _ _
  refine wpAny_bind (wpAny_rule ?_)
  refine wpAny_bind ?_
  show wpAny _ A.in1 (updateSeq S (·.push .none) >>= fun _ => updateSeq S (·.pop)) _ _ _
  refine wpAny_bind (wpAny_updateSeq hS rfl ?_)
  have hS₂ := Heap.get?_update_self (Obj.mapSeq (·.push Value.none)) hS rfl
  refine wpAny_updateSeq (hz := by seq_fits) hS₂ rfl ?_
  have hS₃ := Heap.get?_update_self (Obj.mapSeq (·.pop)) hS₂ rfl
  have oth : ∀ b o, b ≠ S → s.heap.get? b = some o → ((s.heap.update S (Obj.mapSeq (·.push Value.none))).update S (Obj.mapSeq (·.pop))).get? b = some o :=
    fun b o hb e => (Heap.get?_update_other _ _ (Ne.symm hb)).trans ((Heap.get?_update_other _ _ (Ne.symm hb)).trans e)
  obtain ⟨n1, n2, n3, n4, n5⟩ := nS
  obtain ⟨x0, y0, hTO⟩ := N.hTO
  have I2 := I.turnedL (t' := s.toks) (ch := [S]) (fun b o hb e => oth b o (fun e' => hb (List.mem_singleton.mpr e')) e) fun b hb => by rw [List.mem_singleton.mp hb]; exact fS
  refine wpAny_pure (hF _ _ (plainId_quiet F.plain_extend_loop _) (zip_loop hh N.D ⟨n1, n2, n3, n4, n5⟩ hn _ 0 _ H #[] _ [] rfl (Nat.zero_le _) I2 hqx hqy ⟨oth _ _ n2.symm N.hTI, N.h1.at fun o e => oth _ _ n4.symm e, N.h2.at fun o e => oth _ _ n5.symm e, ⟨_, oth _ _ n3.symm hTO⟩, .inl ⟨oth _ _ n1.symm N.hz, x0, y0, oth _ _ n3.symm hTO⟩⟩
    (fun c hc => ?_) hS₃ .nil AllAt.nil hR))
  rcases List.mem_cons.mp hc with q | q
  · rw [q]; exact fS
  · exact N.fp c q
theorem collect_zip {E : Value → Shared → Prop} {Q : List Value → Shared → Prop} (hh : A.handled = none) (N : ZipNew X pins H s.heap z TI TO i1 i2 a b) (hn : min xs.length ys.length ≤ sizeLine) (I : Inv X pins σ H s) (hqx : SqT X.K H a xs) (hqy : SqT X.K H b ys)
    (hQ : ∀ s' H' acc' rs', Inv X pins σ H' s' → Same H H' → Vals rs' acc' → AllAt (PrAt H') rs' (xs.zip ys) → Q acc' s') : wpAny (model X.prog X.w) A (collect (.ref z)) Q E s := by
  have lt := N.lt
  unfold collect
  refine wpAny_bind (wpAny_runValue (codeAny_builtin F.entry_proto_collect ?_))
  rw [Around.under_plainId F.plain_proto_collect _]
  show wpAny _ A.in1 (newList [] >>= fun l => again (.builtin "list.__iadd__" ⟨[l, .ref z], []⟩)) _ _ s
  refine wpAny_bind (wpAny_newObj_type ?_)
  refine wpAny_pure ⟨plainId_quiet F.plain_list_iadd _, codeAny_builtin F.entry_list_iadd ?_⟩
  rw [Around.under_plainId F.plain_list_iadd _]
  have push : ∀ b o, s.heap.get? b = some o → (s.heap.push { cls := .type "list", data := .seq ([] : List Value).toArray }).get? b = some o := fun b o e => Heap.get?_push_of_some _ e
  obtain ⟨x0, y0, hTO⟩ := N.hTO
  have I1 : Inv X pins σ H { s with heap := s.heap.push { cls := .type "list", data := .seq ([] : List Value).toArray } } := I.kept (t' := s.toks) push
  show wpAny _ A.in1 (Builtin.List.listExtendWith (.ref s.heap.objs.size) (.ref z) (.ref s.heap.objs.size)) _ _ _
  refine zip_extend (A := A) (s := { s with heap := s.heap.push { cls := .type "list", data := .seq ([] : List Value).toArray } }) hh ⟨N.D, push _ _ N.hz, push _ _ N.hTI, ⟨x0, y0, push _ _ hTO⟩, N.h1.at fun o e => push _ _ e, N.h2.at fun o e => push _ _ e, N.fp⟩ hn I1 hqx hqy
    (Heap.get?_push_size _ rfl) (I.fpOk (Nat.le_refl _) (I.hok.fresh (Nat.le_refl _))) ⟨Nat.ne_of_gt (lt _ (by simp)), Nat.ne_of_gt (lt _ (by simp)), Nat.ne_of_gt (lt _ (by simp)), Nat.ne_of_gt (lt _ (by simp)), Nat.ne_of_gt (lt _ (by simp))⟩ (fun c' s' q k => ⟨q, k⟩) fun s' H' acc' c' rs' I' sm hS' rv' hA' => ?_
  show wpAny _ A (load s.heap.objs.size >>= _) _ _ s'
  refine wpAny_bind (wpAny_load hS' ?_)
  exact wpAny_pure (hQ s' H' acc'.toList rs' I' sm rv' hA')
theorem tuple_zip {E : Value → Shared → Prop} {Q : Value → Shared → Prop} (hh : A.handled = none) (N : ZipNew X pins H s.heap z TI TO i1 i2 a b) (hn : min xs.length ys.length ≤ sizeLine) (I : Inv X pins σ H s) (hqx : SqT X.K H a xs) (hqy : SqT X.K H b ys)
    (hQ : ∀ s' H' t rs', Inv X pins σ H' s' → Same H H' → H t = none → H' t = some (.tup rs') → AllAt (PrAt H') rs' (xs.zip ys) → Q (.ref t) s') : wpAny (model X.prog X.w) A (call (.type "tuple") [.ref z]) Q E s := by
  have key : codeAny (model X.prog X.w) A.in1 (.call (.builtin "tuple.__new__") ⟨[.type "tuple", .ref z], []⟩) (wants (fun obj s₁ => s₁.TypeIs obj "tuple" ∧ Q obj s₁) E) s := by
    refine codeAny_of_tree ?_
    show wpAny _ A.in1.in1 (do checkBuiltinCall "tuple.__new__" ⟨[.type "tuple", .ref z], []⟩; again (.builtin "tuple.__new__" ⟨[.type "tuple", .ref z], []⟩)) _ _ s
    refine wpAny_bind (wpAny_of_eq (F.newCall_tuple_1 _) (wpAny_pure ⟨plainId_quiet F.plain_tuple_new _, codeAny_builtin F.entry_tuple_new ?_⟩))
    rw [Around.under_plainId F.plain_tuple_new _]
    have hsub := sub_tuple_self
    have hinit := init_tuple_lookup
    have hmh := madeHere_tuple
    have hTI : s.TypeIs (.ref z) "zip" := ⟨_, N.hz, rfl⟩
    have hh2 : A.in1.in1.handled = none := hh
    wp_walk using wpAny_typeOf hTI, collect_zip (A := A.in1.in1) hh2 N hn I hqx hqy
    intro s' H' acc rs' I' sm rv hA
    have hal : acc.length = min xs.length ys.length := by rw [← rv.length, hA.1, List.length_zip]
    show wpAny _ _ (Builtin.Tuple.tupleExact acc.toArray >>= fun v => ret v) _ _ _
    unfold Builtin.Tuple.tupleExact
    refine wpAny_bind (wpAny_newObj_type ?_ (by show acc.toArray.size ≤ sizeLine; rw [List.size_toArray, hal]; exact hn))
    refine wpAny_pure ?_
    have hT : (s'.heap.push { cls := .type "tuple", data := .seq acc.toArray }).get? s'.heap.objs.size = some { cls := .type "tuple", data := .seq acc.toArray } := Heap.get?_push_size _ rfl
    have hfr : H' s'.heap.objs.size = none := I'.hok.fresh (Nat.le_refl _)
    refine ⟨⟨_, hT, rfl⟩, hQ _ (upd H' s'.heap.objs.size (.tup rs')) s'.heap.objs.size rs' (I'.laid (t' := s'.toks) (fun b o q => Heap.get?_push_of_some _ q) (Nat.le_refl _) ?_) (same_more sm hfr) (same_free sm hfr) upd_same (hA.mono fun c p h => (new_past hfr h : PrAt _ c p))⟩
    exact ⟨by rw [rv.length, hal]; exact hn, acc, rv, IsTup.new _ _⟩
  refine callType_codes (Q₁ := fun obj s₁ => s₁.TypeIs obj "tuple" ∧ Q obj s₁) F.called_tuple (F.typeCall_tuple_1 _) F.entry_object_init key fun obj s₁ h₁ => ?_
  exact ⟨h₁.1, F.args_object_init_2 obj _, object_init_meets F.called_tuple.init.lookup F.called_tuple.made (by decide) X.prog X.w A.in1 _ s₁ ⟨h₁.1, rfl, h₁.2⟩⟩
theorem list_zip {E : Value → Shared → Prop} {Q : Value → Shared → Prop} (hh : A.handled = none) (N : ZipNew X pins H s.heap z TI TO i1 i2 a b) (hn : min xs.length ys.length ≤ sizeLine) (I : Inv X pins σ H s) (hqx : SqT X.K H a xs) (hqy : SqT X.K H b ys)
    (hQ : ∀ s' H' S acc' c' rs', Inv X pins σ H' s' → Same H H' → s'.heap.get? S = some { cls := .type "list", dict := none, data := .seq acc' c', slots := #[] } → Vals rs' acc'.toList → AllAt (PrAt H') rs' (xs.zip ys) → Q (.ref S) s') : wpAny (model X.prog X.w) A (call (.type "list") [.ref z]) Q E s := by
  have lt := N.lt
  obtain ⟨x0, y0, hTO⟩ := N.hTO
  refine callType_codes (Q₁ := fun obj s₁ => obj = .ref s.heap.objs.size ∧ s₁ = { s with heap := s.heap.push { cls := .type "list", data := .seq #[] } }) F.called_list (F.typeCall_list_1 _) F.entry_list_init
    (code_list_new _ ⟨rfl, rfl⟩) fun obj s₁ h₁ => ?_
  obtain ⟨rfl, rfl⟩ := h₁
  have hS : (s.heap.push { cls := .type "list", data := .seq #[] }).get? s.heap.objs.size = some { cls := .type "list", data := .seq #[] } := Heap.get?_push_size _ rfl
  refine ⟨⟨_, hS, rfl⟩, F.args_list_init_2 _ _, ?_⟩
  show wpAny _ A.in1.in1 (do let old ← Builtin.List.listItems (.ref s.heap.objs.size); Builtin.List.listUpdate (.ref s.heap.objs.size) (fun _ => #[]); letGo old.toList.reverse; Builtin.List.listExtendWith (.ref s.heap.objs.size) (.ref z) .none) _ _ _
  refine wpAny_bind ?_
  unfold Builtin.List.listItems
  refine wpAny_bind (wpAny_seqItems hS rfl (wpAny_pure ?_))
  show wpAny _ A.in1.in1 (updateSeq s.heap.objs.size (fun _ => #[]) >>= fun _ => letGo (#[] : Array Value).toList.reverse >>= fun _ => Builtin.List.listExtendWith (.ref s.heap.objs.size) (.ref z) .none) _ _ _
  refine wpAny_bind (wpAny_updateSeq hS rfl ?_)
  have hS₂ := Heap.get?_update_self (Obj.mapSeq (fun _ => (#[] : Array Value))) hS rfl
  have push : ∀ b o, s.heap.get? b = some o → ((s.heap.push { cls := .type "list", data := .seq #[] }).update s.heap.objs.size (Obj.mapSeq (fun _ => (#[] : Array Value)))).get? b = some o :=
    fun b o e => (Heap.get?_update_other _ _ (Nat.ne_of_gt (Heap.lt_size e))).trans (Heap.get?_push_of_some _ e)
  refine wpAny_bind (wpAny_letGo ?_)
  have I1 : Inv X pins σ H { s with heap := (s.heap.push { cls := .type "list", data := .seq #[] }).update s.heap.objs.size (Obj.mapSeq (fun _ => (#[] : Array Value))) } := I.kept (t' := s.toks) push
  refine zip_extend (A := A.in1) (s := { s with heap := (s.heap.push { cls := .type "list", data := .seq #[] }).update s.heap.objs.size (Obj.mapSeq (fun _ => (#[] : Array Value))) }) hh ⟨N.D, push _ _ N.hz, push _ _ N.hTI, ⟨x0, y0, push _ _ hTO⟩, N.h1.at fun o e => push _ _ e, N.h2.at fun o e => push _ _ e, N.fp⟩ hn I1 hqx hqy
    hS₂ (I.fpOk (Nat.le_refl _) (I.hok.fresh (Nat.le_refl _))) ⟨Nat.ne_of_gt (lt _ (by simp)), Nat.ne_of_gt (lt _ (by simp)), Nat.ne_of_gt (lt _ (by simp)), Nat.ne_of_gt (lt _ (by simp)), Nat.ne_of_gt (lt _ (by simp))⟩ (fun c' s' q k => ⟨q, k⟩) fun s' H' acc' c' rs' I' sm hS' rv' hA' => ?_
  exact ⟨rfl, hQ s' H' _ acc' c' rs' I' sm hS' rv' hA'⟩
end
/-! ### as expressions -/
section
variable {X : Cx} {e e2 : Expr} {ta : TA} {p p2 p3 pos pos2 pos3 : Pos}
/-- zip(e, e2) of two tuples, as an argument -/
theorem eval_zip (hg : Gl X "zip") (hm : X.mg "zip" = none) (ha : PA X [e, e2] ta) {pins : List (Addr × Obj)} {s : Shared} {σ : L2.St} {H : Hp} {Q0 : List V → Hp → Prop} {Q : Value → Shared → Prop} (I : Inv X pins σ H s)
    (h : ta σ H Q0) (hq : ∀ vs H1, Q0 vs H1 → ∃ a b xs ys, vs = [.ref a, .ref b] ∧ SqT X.K H1 a xs ∧ SqT X.K H1 b ys ∧
      ∀ s' z TI TO i1 i2, Inv X pins σ H1 s' → ZipNew X pins H1 s'.heap z TI TO i1 i2 a b → Q (.ref z) s')
    (hs : starEach [e, e2] X.env = (false, eval e X.env) :: starEach [e2] X.env := by rfl) (hpl : (backTo pos (starEach [e2] X.env)).any (·.1) = false := by rfl) :
    wpAny (model X.prog X.w) X.A (eval (.Call (.Name "zip" p) [e, e2] [] pos) X.env) Q X.xe s := by
  refine Call_ (ld_blt I hg hm PyProof.Rows.boot_zip (PyProof.Rows.callWith_type1 (thn (ha.run pos pins s σ H _ I h) fun us s1 ⟨vs, H1, I1, r1, q1⟩ => ?_) hs hpl))
  obtain ⟨a, b, xs, ys, ex, hqx, hqy, q⟩ := hq vs H1 q1
  subst ex
  cases r1 with
  | cons r rr =>
    cases rr with
    | cons r' rr =>
      cases rr
      cases r
      cases r'
      have fresh5 : ∀ c, c ∈ [s1.heap.objs.size + 4, s1.heap.objs.size + 2, s1.heap.objs.size + 3, s1.heap.objs.size, s1.heap.objs.size + 1] → FpOk X pins H1 c := fun c hcm => by
        have hle : s1.heap.objs.size ≤ c := by
          have e' : c = s1.heap.objs.size + 4 ∨ c = s1.heap.objs.size + 2 ∨ c = s1.heap.objs.size + 3 ∨ c = s1.heap.objs.size ∨ c = s1.heap.objs.size + 1 := by simpa using hcm
          rcases e' with z | z | z | z | z <;> rw [z] <;> first | exact Nat.le_add_right _ _ | exact Nat.le_refl _
        exact I1.fpOk hle (I1.hok.fresh hle)
      obtain ⟨its, rv, p1, _⟩ := I1.tuple hqx
      obtain ⟨its2, rv2, p2, _⟩ := I1.tuple hqy
      obtain ⟨o1, ho1, _⟩ := id p1
      obtain ⟨o2, ho2, _⟩ := id p2
      refine RZ.call_zipT (show s1.heap.IsTuple a its.toArray from p1) (show s1.heap.IsTuple b its2.toArray from p2) fun h' hz hTI hTO h1 h2 hsz hk => ?_
      have I2 : Inv X pins σ H1 { s1 with heap := h' } := I1.kept (t' := s1.toks) hk
      exact q _ _ _ _ _ _ I2 ⟨PySem.W.ktu_apart s1.heap.objs.size a b (Heap.lt_size ho1) (Heap.lt_size ho2), hz, hTI, ⟨_, _, hTO⟩, h1, h2, fresh5⟩
/-- tuple(zip(e, e2)), tuple(list(zip(e, e2))) -/
def tTupZip (K : PySem.W.Frag) (ta : TA) : TE := fun σ H Q => ta σ H fun vs H1 => ∃ a b xs ys, vs = [.ref a, .ref b] ∧ SqT K H1 a xs ∧ SqT K H1 b ys ∧ min xs.length ys.length ≤ sizeLine ∧
  ∀ H' t rs, Same H1 H' → H1 t = none → H' t = some (.tup rs) → AllAt (PrAt H') rs (xs.zip ys) → Q (.ref t) H'
theorem pe_tupZip (hc : X.calm = true) (hg : Gl X "tuple") (hm : X.mg "tuple" = none) (hg2 : Gl X "zip") (hm2 : X.mg "zip" = none) (ha : PA X [e, e2] ta)
    (na : starEach [.Call (.Name "zip" p2) [e, e2] [] pos2] X.env = (false, eval (.Call (.Name "zip" p2) [e, e2] [] pos2) X.env) :: starEach [] X.env := by rfl)
    (hs : starEach [e, e2] X.env = (false, eval e X.env) :: starEach [e2] X.env := by rfl) (hpl : (backTo pos2 (starEach [e2] X.env)).any (·.1) = false := by rfl) :
    PE X (.Call (.Name "tuple" p) [.Call (.Name "zip" p2) [e, e2] [] pos2] [] pos) (tTupZip X.K ta) := by
  refine ⟨fun pins s σ H Q I h => ?_⟩
  refine Call_ (ld_blt I hg hm boot_tuple (PyProof.Rows.callWith_type1 (args_cons (eval_zip hg2 hm2 ha I h (fun vs H1 q => ?_) hs hpl) na) na))
  obtain ⟨a, b, xs, ys, ex, hx, hy, hn, q⟩ := q
  refine ⟨a, b, xs, ys, ex, hx, hy, fun s' z TI TO i1 i2 I' N => args_nil ?_⟩
  exact tuple_zip (I'.ok.hd hc) N hn I' hx hy fun s2 H2 t rs I2 sm ht et hA => ⟨.ref t, H2, I2, rfl, q H2 t rs sm ht et hA⟩
theorem pe_tupListZip (hc : X.calm = true) (hg : Gl X "tuple") (hm : X.mg "tuple" = none) (hg2 : Gl X "zip") (hm2 : X.mg "zip" = none) (hg3 : Gl X "list") (hm3 : X.mg "list" = none) (ha : PA X [e, e2] ta)
    (na : starEach [.Call (.Name "zip" p2) [e, e2] [] pos2] X.env = (false, eval (.Call (.Name "zip" p2) [e, e2] [] pos2) X.env) :: starEach [] X.env := by rfl)
    (nb : starEach [.Call (.Name "list" p3) [.Call (.Name "zip" p2) [e, e2] [] pos2] [] pos3] X.env = (false, eval (.Call (.Name "list" p3) [.Call (.Name "zip" p2) [e, e2] [] pos2] [] pos3) X.env) :: starEach [] X.env := by rfl)
    (hs : starEach [e, e2] X.env = (false, eval e X.env) :: starEach [e2] X.env := by rfl) (hpl : (backTo pos2 (starEach [e2] X.env)).any (·.1) = false := by rfl) :
    PE X (.Call (.Name "tuple" p) [.Call (.Name "list" p3) [.Call (.Name "zip" p2) [e, e2] [] pos2] [] pos3] [] pos) (tTupZip X.K ta) := by
  refine ⟨fun pins s σ H Q I h => ?_⟩
  refine Call_ (ld_blt I hg hm boot_tuple (PyProof.Rows.callWith_type1 (args_cons ?_ nb) nb))
  refine Call_ (ld_blt I hg3 hm3 boot_list (PyProof.Rows.callWith_type1 (args_cons (eval_zip hg2 hm2 ha I h (fun vs H1 q => ?_) hs hpl) na) na))
  obtain ⟨a, b, xs, ys, ex, hx, hy, hn, q⟩ := q
  refine ⟨a, b, xs, ys, ex, hx, hy, fun s' z TI TO i1 i2 I' N => args_nil ?_⟩
  refine list_zip (I'.ok.hd hc) N hn I' hx hy fun s2 H2 S acc c rs I2 sm hS rv hA => args_nil ?_
  have hal : acc.size = min xs.length ys.length := by rw [← Array.length_toList, ← rv.length, hA.1, List.length_zip]
  refine call_tuple_list (l := S) (items := acc) ⟨_, hS, rfl, _, rfl⟩ (fun h' hk => ?_) (by rw [hal]; exact hn)
  have I3 : Inv X pins σ H2 { s2 with heap := h' } := I2.kept (t' := s2.toks) hk
  have hfr : H2 h'.objs.size = none := I3.hok.fresh (Nat.le_refl _)
  refine ⟨.ref h'.objs.size, upd H2 h'.objs.size (.tup rs), I3.laid (t' := s2.toks) (fun b o q => Heap.get?_push_of_some _ q) (Nat.le_refl _) ⟨by rw [rv.length, Array.length_toList, hal]; exact hn, acc.toList, rv, by rw [Array.toArray_toList]; exact IsTup.new _ _⟩, rfl, q _ _ rs (same_more sm hfr) (same_free sm hfr) upd_same (hA.mono fun c p h => (new_past hfr h : PrAt _ c p))⟩
end
end SL

set_option Elab.async false
set_option linter.all false
set_option maxRecDepth 100000
set_option maxHeartbeats 1000000
/-! Own layer 10: lines as pairs of places, plans, squares. -/
namespace SL
open PySem PySem.Spec PyProof.Rows L2
def lenL (ns : List Int) (lo hi : Nat) : Int := ((ns.drop lo).take (hi - lo)).sum + hi - lo - 1
def prs : Nat → List Nat → List (Nat × Nat)
  | _, [] => []
  | lo, e :: es => (lo, e) :: prs e es
def Chain (ns : List Int) (m : Int) : Nat → List Nat → Nat → Prop
  | lo, [], hi => lo = hi
  | lo, e :: es, hi => lo < e ∧ lenL ns lo e ≤ m ∧ Chain ns m e es hi
def sq (ns : List Int) (m : Int) (p : Nat × Nat) : Int := (m - lenL ns p.1 p.2) ^ 2
theorem Chain.le {ns : List Int} {m : Int} : ∀ {lo : Nat} {es : List Nat} {hi : Nat}, Chain ns m lo es hi → lo ≤ hi
  | lo, [], hi, h => Nat.le_of_eq h
  | lo, e :: es, hi, h => Nat.le_trans (Nat.le_of_lt h.1) (Chain.le h.2.2)
theorem Chain.push {ns : List Int} {m : Int} {x : Nat} : ∀ {lo : Nat} {es : List Nat} {hi : Nat}, Chain ns m lo es hi → hi < x → lenL ns hi x ≤ m → Chain ns m lo (es ++ [x]) x
  | lo, [], hi, h, h1, h2 => by
    obtain rfl : lo = hi := h
    exact ⟨h1, h2, rfl⟩
  | lo, e :: es, hi, h, h1, h2 => ⟨h.1, h.2.1, Chain.push h.2.2 h1 h2⟩
theorem Chain.last {ns : List Int} {m : Int} : ∀ {lo : Nat} {es : List Nat} {hi : Nat}, Chain ns m lo es hi → es ≠ [] → es.getLast? = some hi
  | lo, [], hi, _, h => absurd rfl h
  | lo, [e], hi, h, _ => by
    obtain rfl : e = hi := h.2.2
    rfl
  | lo, e :: f :: es, hi, h, _ => by
    rw [List.getLast?_cons_cons]
    exact Chain.last (es := f :: es) h.2.2 (by simp)
theorem Chain.len {ns : List Int} {m : Int} : ∀ {lo : Nat} {es : List Nat} {hi : Nat}, Chain ns m lo es hi → lo + es.length ≤ hi
  | lo, [], hi, h => Nat.le_of_eq h
  | lo, e :: es, hi, h => by
    have := Chain.len h.2.2
    have := h.1
    rw [List.length_cons]
    omega
theorem Chain.prs {ns : List Int} {m : Int} : ∀ {lo : Nat} {es : List Nat} {hi : Nat}, Chain ns m lo es hi → ∀ p ∈ prs lo es, p.1 < p.2 ∧ p.2 ≤ hi ∧ lenL ns p.1 p.2 ≤ m
  | lo, [], hi, _, p, hp => nomatch hp
  | lo, e :: es, hi, h, p, hp => by
    rcases List.mem_cons.mp hp with rfl | hp
    · exact ⟨h.1, Chain.le h.2.2, h.2.1⟩
    · exact Chain.prs h.2.2 p hp
theorem prs_len : ∀ (lo : Nat) (es : List Nat), (prs lo es).length = es.length
  | _, [] => rfl
  | lo, e :: es => by
    show (prs e es).length + 1 = _
    rw [prs_len e es]
    rfl
def natV (n : Nat) : V := .int (n : Int)
def pairV (p : Nat × Nat) : V × V := (natV p.1, natV p.2)
theorem zip_prs : ∀ (lo : Nat) (es : List Nat), (natV lo :: es.map natV).zip (es.map natV) = (prs lo es).map pairV
  | _, [] => rfl
  | lo, e :: es => by
    show (natV lo, natV e) :: (natV e :: es.map natV).zip (es.map natV) = _
    rw [zip_prs e es]
    rfl
theorem zip_drop {α : Type} : ∀ (x : α) (l : List α), (x :: l.dropLast).zip l = (x :: l).zip l
  | _, [] => rfl
  | x, [y] => rfl
  | x, y :: z :: l => by
    show (x, y) :: (y :: (z :: l).dropLast).zip (z :: l) = (x, y) :: (y :: z :: l).zip (z :: l)
    rw [zip_drop y (z :: l)]
theorem sum_pos : ∀ {l : List Int}, (∀ x ∈ l, 1 ≤ x) → (l.length : Int) ≤ l.sum
  | [], _ => Int.le_refl _
  | x :: l, h => by
    have := sum_pos (l := l) fun y hy => h y (List.mem_cons_of_mem _ hy)
    have := h x (List.mem_cons_self ..)
    rw [List.length_cons, List.sum_cons]
    omega
theorem lenL_nn {ns : List Int} {lo hi : Nat} (h : ∀ x ∈ ns, 1 ≤ x) (hl : lo < hi) : 0 ≤ lenL ns lo hi := by
  have h1 := sum_pos (l := (ns.drop lo).take (hi - lo)) fun x hx => h x (List.mem_of_mem_drop (List.mem_of_mem_take hx))
  unfold lenL
  omega
theorem cut_mid (xs : List V) {lo hi : Nat} (h : lo ≤ hi) (h2 : hi ≤ xs.length) : cutV xs (some (lo : Int)) (some (hi : Int)) = (xs.drop lo).take (hi - lo) := by
  unfold cutV
  rw [HT.sIx_nat, HT.sIx_nat, Nat.min_eq_left h2, Nat.min_eq_left (by omega)]
theorem cut_last (xs : List V) : cutV xs none (some (-1)) = xs.dropLast := by
  unfold cutV
  rw [HT.sIx_none, List.drop_zero, Nat.sub_zero]
  show xs.take (((-1 : Int) + (xs.length : Int)).toNat) = _
  rw [List.dropLast_eq_take]
  congr 1
  omega
theorem AllAt.drop {α : Type} {R : Addr → α → Prop} {rs : List V} {ps : List α} (h : AllAt R rs ps) : AllAt R rs.dropLast ps.dropLast := by
  refine ⟨by rw [List.length_dropLast, List.length_dropLast, h.1], fun i p e => ?_⟩
  rw [List.getElem?_dropLast] at e
  split at e
  · rename_i hi
    obtain ⟨a, e1, e2⟩ := h.2 i p e
    exact ⟨a, by rw [List.getElem?_dropLast, if_pos (by rw [h.1]; exact hi)]; exact e1, e2⟩
  · cases e
theorem PrAt.same {H H' : Hp} (k : Same H H') : ∀ a p, PrAt H a p → PrAt H' a p := fun _ _ h => k _ _ h
/-- a tuple, a list that changes -/
theorem sqT_past {K : PySem.W.Frag} {H : Hp} {l a : Addr} {xs ys : List V} {o : HO} (hl : H l = some (.lst ys)) (h : SqT K H a xs) : SqT K (upd H l o) a xs := by
  rcases h with (h | ⟨o2, h⟩) | h
  · exact .inl (.inl (tup_past hl h))
  · refine .inl (.inr ⟨o2, ?_⟩)
    rw [upd_ne (fun e => by rw [e, hl] at h; cases h)]
    exact h
  · exact .inr h
def TpAt (K : PySem.W.Frag) (H : Hp) (a : Addr) (es : List Nat) : Prop := SqT K H a (es.map natV)
theorem TpAt.same {K : PySem.W.Frag} {H H' : Hp} (k : Same H H') : ∀ a p, TpAt K H a p → TpAt K H' a p := fun _ _ h => SL.Same.tup k h
theorem TpAt.lst {K : PySem.W.Frag} {H : Hp} {l : Addr} {ys : List V} {o : HO} (hl : H l = some (.lst ys)) : ∀ a p, TpAt K H a p → TpAt K (upd H l o) a p := fun _ _ h => sqT_past hl h
def spLen (K : PySem.W.Frag) : Sp := fun vs H Q _ => ∃ (t : Addr) (ns : List Int) (lo hi : Nat), vs = [.ref t, .int (lo : Int), .int (hi : Int)] ∧ SqT K H t (ns.map V.int) ∧ lo ≤ hi ∧ hi ≤ ns.length ∧ ∀ H', Same H H' → Q (.int (lenL ns lo hi)) H'
def spGap (K : PySem.W.Frag) : Sp := fun vs H Q _ => ∃ (m : Int) (t : Addr) (ns : List Int) (lo hi : Nat), vs = [.int m, .ref t, .int (lo : Int), .int (hi : Int)] ∧ SqT K H t (ns.map V.int) ∧ lo ≤ hi ∧ hi ≤ ns.length ∧ lenL ns lo hi ≤ m ∧ ∀ H', Same H H' → Q (.int (m - lenL ns lo hi)) H'
def spLinesOf (K : PySem.W.Frag) : Sp := fun vs H Q _ => ∃ (t : Addr) (es : List Nat), vs = [.ref t] ∧ SqT K H t (es.map natV) ∧ es.length ≤ 1000 ∧
  ∀ H' r rs, Same H H' → H' r = some (.tup rs) → AllAt (PrAt H') rs ((prs 0 es).map pairV) → Q (.ref r) H'
def spSquares (K : PySem.W.Frag) : Sp := fun vs H Q _ => ∃ (m : Int) (t l : Addr) (ns : List Int) (rs : List V) (ps : List (Nat × Nat)), vs = [.int m, .ref t, .ref l] ∧ SqT K H t (ns.map V.int) ∧ SqT K H l rs ∧ AllAt (PrAt H) rs (ps.map pairV) ∧ ps.length ≤ 1000 ∧ m ≤ 1000000000 ∧
  (∀ p ∈ ps, p.1 ≤ p.2 ∧ p.2 ≤ ns.length ∧ lenL ns p.1 p.2 ≤ m ∧ 0 ≤ lenL ns p.1 p.2) ∧ ∀ H', Same H H' → Q (.int (ps.map (sq ns m)).sum) H'
def spCost (K : PySem.W.Frag) (f : List (Nat × Nat) → List (Nat × Nat)) : Sp := fun vs H Q _ => ∃ (m : Int) (t l : Addr) (ns : List Int) (es : List Nat), vs = [.int m, .ref t, .ref l] ∧ SqT K H t (ns.map V.int) ∧ SqT K H l (es.map natV) ∧ Chain ns m 0 es ns.length ∧ (∀ x ∈ ns, 1 ≤ x) ∧ ns.length ≤ 1000 ∧ m ≤ 1000000000 ∧
  ∀ H', Same H H' → Q (.int ((f (prs 0 es)).map (sq ns m)).sum) H'
theorem nat_pairs {ps : List (Nat × Nat)} {i : Nat} {q : V × V} (h : (ps.map pairV)[i]? = some q) : ∃ p, q = pairV p ∧ ps[i]? = some p ∧ p ∈ ps := by
  rw [List.getElem?_map] at h
  match e : ps[i]? with
  | none => rw [e] at h; cases h
  | some p =>
    rw [e] at h
    exact ⟨p, (Option.some.inj h).symm, rfl, List.mem_of_getElem? e⟩
end SL

set_option Elab.async false
set_option linter.all false
set_option maxRecDepth 100000
set_option maxHeartbeats 1000000
/-! Own layer 11: all plans of a text, their weights; zip of tuples in a comprehension. -/
namespace SL
open PySem PySem.Spec PyProof.Rows L2
def lastN (es : List Nat) : Nat := es.getLast?.getD 0
def wtp (n : Nat) (es : List Nat) : Nat := 2 ^ (n - lastN es)
def tot (n : Nat) (ess : List (List Nat)) : Nat := (ess.map (wtp n)).sum
theorem tot_push (n : Nat) (ess : List (List Nat)) (es : List Nat) : tot n (ess ++ [es]) = tot n ess + wtp n es := by
  unfold tot
  rw [List.map_append, List.sum_append]
  simp
theorem wtp_pos (n : Nat) (es : List Nat) : 1 ≤ wtp n es := Nat.one_le_two_pow
theorem tot_len (n : Nat) : ∀ ess : List (List Nat), ess.length ≤ tot n ess
  | [] => Nat.le_refl _
  | es :: ess => by
    have := tot_len n ess
    have := wtp_pos n es
    show ess.length + 1 ≤ wtp n es + tot n ess
    omega
theorem lastN_push (es : List Nat) (h : Nat) : lastN (es ++ [h]) = h := by
  unfold lastN
  rw [List.getLast?_concat]
  rfl
theorem Chain.lastN {ns : List Int} {m : Int} {es : List Nat} {hi : Nat} (h : Chain ns m 0 es hi) : lastN es = hi := by
  by_cases e : es = []
  · subst e
    exact h
  · unfold SL.lastN
    rw [h.last e]
    rfl
def tupD (es : List Nat) : PyData := .tuple (es.map fun e : Nat => PyData.int (e : Int))
theorem dp_nats {K : PySem.W.Frag} {H : Hp} : ∀ es : List Nat, DpAll K H (es.map natV) (es.map fun e : Nat => PyData.int (e : Int))
  | [] => .nil
  | e :: es => .cons (.int _) (dp_nats es)
theorem dp_tup {K : PySem.W.Frag} {H : Hp} {a : Addr} {es : List Nat} (h : TpAt K H a es) : Dp K H (.ref a) (tupD es) := .tup h (dp_nats es)
theorem AllAt.tail {α : Type} {R : Addr → α → Prop} {r : V} {rs : List V} {p : α} {ps : List α} (h : AllAt R (r :: rs) (p :: ps)) : AllAt R rs ps :=
  ⟨Nat.succ.inj h.1, fun i q e => h.2 (i + 1) q e⟩
theorem dp_tups {K : PySem.W.Frag} {H : Hp} : ∀ {rs : List V} {ess : List (List Nat)}, AllAt (TpAt K H) rs ess → DpAll K H rs (ess.map tupD)
  | [], [], _ => .nil
  | [], _ :: _, h => nomatch h.1
  | _ :: _, [], h => nomatch h.1
  | r :: rs, es :: ess, h => by
    obtain ⟨a, e, k⟩ := h.2 0 es rfl
    obtain rfl : r = .ref a := Option.some.inj e
    exact .cons (dp_tup k) (dp_tups h.tail)
theorem can_ints : ∀ es : List Nat, PyData.canLayAll0 (es.map fun e : Nat => PyData.int (e : Int)) = true ∧ PyData.depthAll (es.map fun e : Nat => PyData.int (e : Int)) = 0
  | [] => ⟨rfl, rfl⟩
  | e :: es => by
    obtain ⟨a, b⟩ := can_ints es
    refine ⟨?_, ?_⟩
    · show (PyData.canLay0 (.int (e : Int)) && PyData.canLayAll0 (es.map fun e : Nat => PyData.int (e : Int))) = true
      rw [a]
      rfl
    · show max (PyData.depth (.int (e : Int))) (PyData.depthAll (es.map fun e : Nat => PyData.int (e : Int))) = 0
      rw [b]
      rfl
theorem shaped_tup (es : List Nat) : SeqAt.shaped (tupD es) = true := by
  obtain ⟨a, b⟩ := can_ints es
  unfold SeqAt.shaped tupD
  simp only [PyData.canLay0, PyData.depth, a, b]
  rfl
theorem can_tups : ∀ ess : List (List Nat), PyData.canLayAll0 (ess.map tupD) = true ∧ PyData.depthAll (ess.map tupD) ≤ 1
  | [] => ⟨rfl, Nat.zero_le _⟩
  | es :: ess => by
    obtain ⟨a, b⟩ := can_tups ess
    obtain ⟨c, d⟩ := can_ints es
    simp only [List.map_cons, PyData.canLayAll0, PyData.depthAll, tupD, PyData.canLay0, PyData.depth, c, d]
    refine ⟨by rw [a]; rfl, by omega⟩
theorem shaped_tups (ess : List (List Nat)) : SeqAt.shaped (.list (ess.map tupD)) = true := by
  obtain ⟨a, b⟩ := can_tups ess
  unfold SeqAt.shaped
  simp only [PyData.canLay0, PyData.depth, a, Bool.true_and]
  exact decide_eq_true (by omega)
theorem eqv_lnil : ∀ ess : List (List Nat), PyData.eqv (.list (ess.map tupD)) (.list []) = decide (ess = [])
  | [] => by simp [PyData.eqv, PyData.eqvAll]
  | _ :: _ => by simp [PyData.eqv, PyData.eqvAll]
theorem eqv_tnil : ∀ es : List Nat, PyData.eqv (tupD es) (.tuple []) = decide (es = [])
  | [] => by simp [tupD, PyData.eqv, PyData.eqvAll]
  | _ :: _ => by simp [tupD, PyData.eqv, PyData.eqvAll]
def spPlans (K : PySem.W.Frag) : Sp := fun vs H Q _ => ∃ (m : Int) (t : Addr) (ns : List Int), vs = [.int m, .ref t] ∧ SqT K H t (ns.map V.int) ∧ ns.length ≤ 9 ∧
  ∀ H' l rs ess, Same H H' → H l = none → H' l = some (.lst rs) → AllAt (TpAt K H') rs ess → (∀ es ∈ ess, Chain ns m 0 es ns.length) → rs.length ≤ 1000 → Q (.ref l) H'
def spSq (K : PySem.W.Frag) : Sp := fun vs H Q _ => ∃ (m : Int) (t l : Addr) (ns : List Int) (es : List Nat), vs = [.int m, .ref t, .ref l] ∧ SqT K H t (ns.map V.int) ∧ SqT K H l (es.map natV) ∧ Chain ns m 0 es ns.length ∧ (∀ x ∈ ns, 1 ≤ x) ∧ ns.length ≤ 1000 ∧ m ≤ 1000000000 ∧
  ∀ H' r, Same H H' → H r = none → H' r = some (.lst (((prs 0 es).map (sq ns m)).map V.int)) → Q (.ref r) H'
/-- a comprehension over zip of two tuples -/
theorem lc_zipT {K : PySem.W.Frag} {a b : Addr} {xs ys : List V} {g : TG} {tt : TT} {te : TE} {vs : List Nat} {σ : L2.St} {H1 : Hp} {D : Addr} {Qd : Hp → Prop} (Pv : Nat → Hp → Prop) (h0 : Pv 0 (upd H1 D (.lst []))) (hl : ∀ i H, Pv i H → SqT K H a xs ∧ SqT K H b ys)
    (hs : ∀ i x y T H, xs[i]? = some x → ys[i]? = some y → H T = none → Pv i H → g (.ref T) (wipe σ vs) (upd H T (.tup [x, y])) fun σ2 H2 => wipe σ2 vs = wipe σ vs ∧ tt σ2 H2 fun b H3 =>
      if b = true then te σ2 H3 fun y H4 => ∃ acc, H4 D = some (.lst acc) ∧ acc.length < sizeLine ∧ Pv (i + 1) (upd H4 D (.lst (acc ++ [y]))) else Pv (i + 1) H3) (hd : ∀ H, Pv (min xs.length ys.length) H → Qd H) :
    ∃ W : Nat → Nat → Hp → Prop, (∃ m, W 0 m (upd H1 D (.lst []))) ∧ ∀ i m H, W i m H →
      ((RZ.ItzT K a b).stop i H ∧ Qd H) ∨ ((RZ.ItzT K a b).go i H ∧ ∃ Nx : Hp → Prop, (∀ H', Nx H' → ∃ m', m' < m ∧ W (i + 1) m' H') ∧ ∀ x H', (RZ.ItzT K a b).yld i H x H' → g x (wipe σ vs) H' fun σ2 H2 => wipe σ2 vs = wipe σ vs ∧ tt σ2 H2 fun b H3 =>
        if b = true then te σ2 H3 fun y H4 => ∃ acc, H4 D = some (.lst acc) ∧ acc.length < sizeLine ∧ Nx (upd H4 D (.lst (acc ++ [y]))) else Nx H3) := by
  refine ⟨fun i m H => m = min xs.length ys.length - i ∧ i ≤ min xs.length ys.length ∧ Pv i H, ⟨min xs.length ys.length, by simp, Nat.zero_le _, h0⟩, ?_⟩
  rintro i m H ⟨rfl, hi, p⟩
  obtain ⟨q1, q2⟩ := hl i H p
  by_cases hlt : i < min xs.length ys.length
  · have hx : i < xs.length := by omega
    have hy : i < ys.length := by omega
    refine .inr ⟨⟨xs, ys, xs[i], ys[i], q1, q2, by simp [hx], by simp [hy]⟩, Pv (i + 1), fun H' p' => ⟨min xs.length ys.length - (i + 1), by omega, rfl, hlt, p'⟩, fun x H' y => ?_⟩
    obtain ⟨T, x0, y0, e, hT, eH, e1, e2⟩ := y
    subst e eH
    exact hs i x0 y0 T _ (e1 xs q1) (e2 ys q2) hT p
  · have e : i = min xs.length ys.length := by omega
    subst e
    exact .inl ⟨⟨xs, ys, q1, q2, by omega⟩, hd H p⟩
end SL

set_option Elab.async false
set_option linter.all false
set_option maxRecDepth 100000
set_option maxHeartbeats 1000000
/-! Own layer 12: small data without dicts, shown. -/
namespace SL
open PySem PySem.Spec PyProof.Rows L2
structure Sm (b k : Nat) (d : PyData) : Prop where
  sh : d.showable = true
  dp : d.depth ≤ k
  wt : wt d ≤ b
theorem Sm.all {b k : Nat} : ∀ {ds : List PyData}, (∀ d ∈ ds, Sm b k d) → PyData.showableAll ds = true ∧ PyData.depthAll ds ≤ k ∧ wtAll ds ≤ ds.length * (b + 2)
  | [], _ => ⟨rfl, Nat.zero_le _, Nat.zero_le _⟩
  | d :: ds, h => by
    obtain ⟨h1, h2, h3⟩ := h d (List.mem_cons_self ..)
    obtain ⟨a1, a2, a3⟩ := Sm.all fun e he => h e (List.mem_cons_of_mem _ he)
    refine ⟨by simp [PyData.showableAll, h1, a1], ?_, ?_⟩
    · simp only [PyData.depthAll]; omega
    · simp only [wtAll, List.length_cons]
      have e : (ds.length + 1) * (b + 2) = ds.length * (b + 2) + (b + 2) := Nat.succ_mul _ _
      omega
theorem Sm.tuple {b k m : Nat} {ds : List PyData} (h : ∀ d ∈ ds, Sm b k d) (hl : ds.length ≤ m) : Sm (m * (b + 2) + 3) (k + 1) (.tuple ds) := by
  obtain ⟨a1, a2, a3⟩ := Sm.all h
  have e : ds.length * (b + 2) ≤ m * (b + 2) := Nat.mul_le_mul_right _ hl
  refine ⟨by simpa [PyData.showable] using a1, ?_, ?_⟩
  · simp only [PyData.depth]; omega
  · simp only [SL.wt]; omega
theorem Sm.list {b k m : Nat} {ds : List PyData} (h : ∀ d ∈ ds, Sm b k d) (hl : ds.length ≤ m) : Sm (m * (b + 2) + 3) (k + 1) (.list ds) := by
  obtain ⟨a1, a2, a3⟩ := Sm.all h
  have e : ds.length * (b + 2) ≤ m * (b + 2) := Nat.mul_le_mul_right _ hl
  refine ⟨by simpa [PyData.showable] using a1, ?_, ?_⟩
  · simp only [PyData.depth]; omega
  · simp only [SL.wt]; omega
theorem Sm.int {i : Int} (h0 : -(2 ^ 100) < i) (h1 : i < 2 ^ 100) : Sm 104 0 (.int i) := by
  have h := log_small h0 h1
  refine ⟨by simp [PyData.showable]; omega, Nat.zero_le _, ?_⟩
  simp only [SL.wt]; omega
theorem Sm.mono {b k b2 k2 : Nat} {d : PyData} (h : Sm b k d) (hb : b ≤ b2) (hk : k ≤ k2) : Sm b2 k2 d := ⟨h.sh, Nat.le_trans h.dp hk, Nat.le_trans h.wt hb⟩
theorem Sm.two {b k : Nat} {d e : PyData} (h : Sm b k d) (h2 : Sm b k e) : ∀ x ∈ [d, e], Sm b k x := fun x hx => by
  rcases List.mem_cons.mp hx with rfl | hx
  · exact h
  · rw [List.mem_singleton.mp hx]
    exact h2
theorem dp_ints {K : PySem.W.Frag} {H : Hp} : ∀ ns : List Int, DpAll K H (ns.map V.int) (ns.map PyData.int)
  | [] => .nil
  | e :: es => .cons (.int _) (dp_ints es)
theorem sm_row {m : Int} {ns : List Int} {k : Nat} (h : ∀ x ∈ ns, 1 ≤ x ∧ x ≤ m) (hm : m ≤ 1000000000) (hl : ns.length ≤ k) : Sm (k * 106 + 3) 1 (.tuple (ns.map PyData.int)) :=
  Sm.tuple (b := 104) (k := 0) (fun d hd => by
    obtain ⟨x, hx, rfl⟩ := List.mem_map.mp hd
    have := h x hx
    exact Sm.int (by omega) (by omega)) (by rw [List.length_map]; exact hl)
theorem Chain.mem {ns : List Int} {m : Int} : ∀ {lo : Nat} {es : List Nat} {hi : Nat}, Chain ns m lo es hi → ∀ e ∈ es, e ≤ hi
  | lo, [], hi, _, e, he => nomatch he
  | lo, f :: es, hi, h, e, he => by
    rcases List.mem_cons.mp he with rfl | he
    · exact Chain.le h.2.2
    · exact Chain.mem h.2.2 e he
theorem sm_ends {es : List Nat} {k : Nat} (h : ∀ e ∈ es, e ≤ 1000) (hl : es.length ≤ k) : Sm (k * 106 + 3) 1 (tupD es) :=
  Sm.tuple (b := 104) (k := 0) (fun d hd => by
    obtain ⟨x, hx, rfl⟩ := List.mem_map.mp hd
    have := h x hx
    exact Sm.int (by omega) (by omega)) (by rw [List.length_map]; exact hl)
def prD (p : Nat × Nat) : PyData := .tuple [.int (p.1 : Int), .int (p.2 : Int)]
def prsD (ps : List (Nat × Nat)) : PyData := .tuple (ps.map prD)
theorem dp_pairs {K : PySem.W.Frag} {H : Hp} : ∀ {rs : List V} {ps : List (Nat × Nat)}, AllAt (PrAt H) rs (ps.map pairV) → DpAll K H rs (ps.map prD)
  | [], [], _ => .nil
  | [], _ :: _, h => nomatch h.1
  | _ :: _, [], h => nomatch h.1
  | r :: rs, p :: ps, h => by
    obtain ⟨a, e, k⟩ := h.2 0 (pairV p) rfl
    obtain rfl : r = .ref a := Option.some.inj e
    exact .cons (.tup (SqT.of k) (.cons (.int _) (.cons (.int _) .nil))) (dp_pairs h.tail)
theorem sm_pairs {ps : List (Nat × Nat)} {k : Nat} (h : ∀ p ∈ ps, p.1 ≤ 1000 ∧ p.2 ≤ 1000) (hl : ps.length ≤ k) : Sm (k * 217 + 3) 2 (prsD ps) :=
  Sm.tuple (b := 215) (k := 1) (fun d hd => by
    obtain ⟨p, hp, rfl⟩ := List.mem_map.mp hd
    have := h p hp
    exact Sm.tuple (b := 104) (k := 0) (m := 2) (Sm.two (Sm.int (by omega) (by omega)) (Sm.int (by omega) (by omega))) (Nat.le_refl _)) (by rw [List.length_map]; exact hl)
theorem sum_bound {B : Int} : ∀ {l : List Int}, (∀ x ∈ l, 0 ≤ x ∧ x ≤ B) → 0 ≤ l.sum ∧ l.sum ≤ l.length * B
  | [], _ => ⟨Int.le_refl _, by simp⟩
  | x :: l, h => by
    have ih := sum_bound (l := l) fun y hy => h y (List.mem_cons_of_mem _ hy)
    have h1 := h x (List.mem_cons_self ..)
    have e2 : ((l.length + 1 : Nat) : Int) * B = l.length * B + B := by
      rw [Int.natCast_add, Int.add_mul]
      simp
    rw [List.sum_cons, List.length_cons, e2]
    omega
theorem sq_bound {ns : List Int} {m : Int} {p : Nat × Nat} (h1 : lenL ns p.1 p.2 ≤ m) (h2 : 0 ≤ lenL ns p.1 p.2) (hm : m ≤ 1000000000) : 0 ≤ sq ns m p ∧ sq ns m p ≤ 1000000000000000000 := by
  unfold sq
  have h3 : 0 ≤ m - lenL ns p.1 p.2 := by omega
  have h4 : m - lenL ns p.1 p.2 ≤ 1000000000 := by omega
  generalize m - lenL ns p.1 p.2 = x at h3 h4
  have e : x ^ 2 = x * x := by rw [Int.pow_succ, Int.pow_succ, Int.pow_zero, Int.one_mul]
  rw [e]
  have a1 := Int.mul_nonneg h3 h3
  have a2 : x * x ≤ 1000000000 * x := Int.mul_le_mul_of_nonneg_right h4 h3
  omega
theorem sm_paid {ns : List Int} {m : Int} {ps : List (Nat × Nat)} (h : ∀ p ∈ ps, lenL ns p.1 p.2 ≤ m ∧ 0 ≤ lenL ns p.1 p.2) (hm : m ≤ 1000000000) (hl : ps.length ≤ 1000) : Sm 104 0 (.int (ps.map (sq ns m)).sum) := by
  obtain ⟨a, b⟩ := sum_bound (l := ps.map (sq ns m)) (B := 1000000000000000000) fun x hx => by
    obtain ⟨p, hp, rfl⟩ := List.mem_map.mp hx
    exact sq_bound (h p hp).1 (h p hp).2 hm
  rw [List.length_map] at b
  have c : (ps.length : Int) * 1000000000000000000 ≤ 1000 * 1000000000000000000 := Int.mul_le_mul_of_nonneg_right (by omega) (by decide)
  exact Sm.int (by omega) (by omega)
end SL

set_option Elab.async false
set_option linter.all false
set_option maxRecDepth 100000
set_option maxHeartbeats 1000000
/-! Own layer 13: the latest begins, the paths, what they cost. -/
namespace SL
open PySem PySem.Spec PyProof.Rows L2
def hd (rs : List (Int × Nat)) : Nat := (cheap rs).headD 0
theorem cheap_push {rs : List (Int × Nat)} (h : rs ≠ []) (x : Int × Nat) : cheap (rs ++ [x]) = if x.1 < least rs then [x.2] else if x.1 = least rs then cheap rs ++ [x.2] else cheap rs := by
  unfold cheap
  rw [least_push h, List.filter_append, List.map_append]
  obtain ⟨_, hl⟩ := least_spec h
  by_cases h1 : x.1 < least rs
  · rw [if_pos h1, if_pos h1]
    have e : rs.filter (fun r => decide (r.1 = x.1)) = [] := by
      rw [List.filter_eq_nil_iff]
      intro r hr
      have := hl r hr
      simp
      omega
    rw [e]
    simp
  · rw [if_neg h1, if_neg h1]
    by_cases h2 : x.1 = least rs
    · rw [if_pos h2, List.filter_cons, if_pos (by simpa using h2)]
      rfl
    · rw [if_neg h2, List.filter_cons, if_neg (by simpa using h2)]
      simp
theorem cheap_ne {rs : List (Int × Nat)} (h : rs ≠ []) : cheap rs ≠ [] := by
  obtain ⟨⟨x, hx, e⟩, _⟩ := least_spec h
  intro z
  have z2 : rs.filter (fun r => decide (r.1 = least rs)) = [] := List.map_eq_nil_iff.mp z
  rw [List.filter_eq_nil_iff] at z2
  exact z2 x hx (by simpa using e)
theorem hd_push {rs : List (Int × Nat)} (h : rs ≠ []) (x : Int × Nat) : hd (rs ++ [x]) = if x.1 < least rs then x.2 else hd rs := by
  unfold hd
  rw [cheap_push h]
  have := cheap_ne h
  split
  · rfl
  · split
    · match e : cheap rs with
      | [] => exact absurd e this
      | _ :: _ => rfl
    · rfl
theorem hd_one (x : Int × Nat) : hd [x] = x.2 := by
  unfold hd cheap
  simp [least]
theorem hd_mem {rs : List (Int × Nat)} (h : rs ≠ []) : ∃ x ∈ rs, x.2 = hd rs ∧ x.1 = least rs := by
  have hn := cheap_ne h
  match e : cheap rs with
  | [] => exact absurd e hn
  | b :: bs =>
    have hb : b ∈ cheap rs := by rw [e]; exact List.mem_cons_self ..
    obtain ⟨x, hx, rfl⟩ := List.mem_map.mp hb
    obtain ⟨h1, h2⟩ := List.mem_filter.mp hx
    refine ⟨x, h1, ?_, by simpa using h2⟩
    unfold hd
    rw [e]
    rfl
theorem hd_at {rs : List (Int × Nat)} (h : rs ≠ []) : (cheap rs)[0]? = some (hd rs) := by
  have hn := cheap_ne h
  unfold hd
  match e : cheap rs with
  | [] => exact absurd e hn
  | b :: bs => rfl
/-- the latest begin of the last line of a best closed layout -/
def fB (ns : Nat → Int) (w : Int) : Nat → Nat
  | 0 => 0
  | e + 1 => hd (rate (cs ns w e) (linesF ns (e + 1) (w + 1)))
def bgs (ns : Nat → Int) (w : Int) : Nat → List Nat
  | 0 => [0]
  | e + 1 => bgs ns w e ++ [fB ns w (e + 1)]
theorem bgs_len {ns : Nat → Int} {w : Int} : ∀ e, (bgs ns w e).length = e + 1
  | 0 => rfl
  | e + 1 => by unfold bgs; rw [List.length_append, bgs_len e]; rfl
theorem bgs_at {ns : Nat → Int} {w : Int} {m : Nat} : ∀ {n : Nat}, m ≤ n → (bgs ns w n)[m]? = some (fB ns w m) := by
  intro n h
  induction n with
  | zero =>
    rw [show m = 0 by omega]
    rfl
  | succ n ih =>
    rw [show bgs ns w (n + 1) = bgs ns w n ++ [fB ns w (n + 1)] from rfl]
    by_cases e : m = n + 1
    · subst e
      rw [List.getElem?_append_right (by rw [bgs_len]; omega), bgs_len]
      simp
    · rw [List.getElem?_append_left (by rw [bgs_len]; omega)]
      exact ih (by omega)
inductive Pth (f : Nat → Nat) : Nat → List Nat → Prop
  | z : Pth f 0 []
  | s {e : Nat} {es : List Nat} : 0 < e → Pth f (f e) es → Pth f e (es ++ [e])
theorem Pth.uni {f : Nat → Nat} {e : Nat} {es es' : List Nat} (h : Pth f e es) : Pth f e es' → es = es' := by
  induction h generalizing es' with
  | z =>
    intro h2
    cases h2 with
    | z => rfl
    | s h _ => omega
  | s h _ ih =>
    intro h2
    cases h2 with
    | z => omega
    | s _ h3 => rw [ih h3]
/-! ### lines and lengths -/
theorem lenL_step {ns : List Int} {b e : Nat} (h : b + 1 < e) (he : e ≤ ns.length) : lenL ns b e = nsOf ns b + 1 + lenL ns (b + 1) e := by
  unfold lenL
  have hb : b < ns.length := by omega
  have h1 : (ns.drop b).take (e - b) = nsOf ns b :: (ns.drop (b + 1)).take (e - (b + 1)) := by
    rw [List.drop_eq_getElem_cons hb, show e - b = (e - (b + 1)) + 1 by omega, List.take_succ_cons]
    congr 1
    unfold nsOf
    rw [List.getD_eq_getElem?_getD, List.getElem?_eq_getElem hb]
    rfl
  rw [h1, List.sum_cons]
  omega
theorem lenL_one {ns : List Int} {b : Nat} (hb : b < ns.length) : lenL ns b (b + 1) = nsOf ns b := by
  unfold lenL
  have h1 : (ns.drop b).take (b + 1 - b) = [nsOf ns b] := by
    rw [List.drop_eq_getElem_cons hb, show b + 1 - b = 0 + 1 by omega, List.take_succ_cons]
    unfold nsOf
    rw [List.getD_eq_getElem?_getD, List.getElem?_eq_getElem hb]
    rfl
  rw [h1, List.sum_cons, List.sum_nil]
  omega
theorem lines_gap {ns : List Int} {m : Int} {e : Nat} (he : e ≤ ns.length) : ∀ {b : Nat} {f : Int}, b ≤ e → (b < e → f = m - lenL ns b e) → (b = e → f = m + 1) → ∀ p ∈ linesF (nsOf ns) b f, p.2 = m - lenL ns p.1 e
  | 0, _, _, _, _, p, hp => nomatch hp
  | b + 1, f, hb, h1, h2, p, hp => by
    by_cases hlt : nsOf ns b < f
    · rw [linesF_yes hlt] at hp
      have hg : f - (nsOf ns b + 1) = m - lenL ns b e := by
        by_cases hbe : b + 1 = e
        · rw [h2 hbe, ← hbe, lenL_one (by omega)]
          omega
        · rw [h1 (by omega), lenL_step (b := b) (by omega) he]
          omega
      rcases List.mem_cons.mp hp with rfl | hp
      · exact hg
      · exact lines_gap he (by omega) (fun _ => hg) (fun h => by omega) p hp
    · rw [linesF_no hlt] at hp
      cases hp
theorem line_gap {ns : List Int} {m : Int} {e : Nat} (he : e ≤ ns.length) : ∀ p ∈ linesF (nsOf ns) e (m + 1), p.2 = m - lenL ns p.1 e := lines_gap he (Nat.le_refl _) (fun h => by omega) (fun _ => rfl)
theorem fB_line {ns : List Int} {m : Int} {e : Nat} (hF : Fit m ns) (he : e < ns.length) : ∃ p ∈ linesF (nsOf ns) (e + 1) (m + 1), p.1 = fB (nsOf ns) m (e + 1) ∧ (cs (nsOf ns) m e).getD p.1 0 + p.2 ^ 2 = least (rate (cs (nsOf ns) m e) (linesF (nsOf ns) (e + 1) (m + 1))) := by
  have hL1 : nsOf ns e < m + 1 := by have := (hF e he).2; omega
  obtain ⟨x, hx, h1, h2⟩ := hd_mem (rs := rate (cs (nsOf ns) m e) (linesF (nsOf ns) (e + 1) (m + 1))) (fun z => linesF_ne hL1 (rate_nil.mp z))
  obtain ⟨p, hp, rfl⟩ := List.mem_map.mp hx
  exact ⟨p, hp, h1, h2⟩
theorem fB_lt {ns : List Int} {m : Int} {e : Nat} (hF : Fit m ns) (he : e < ns.length) : fB (nsOf ns) m (e + 1) < e + 1 := by
  obtain ⟨p, hp, h1, _⟩ := fB_line hF he
  rw [← h1]
  exact (linesF_mem (hF.pos (by omega)) hp).1
theorem prs_push : ∀ (lo : Nat) (es : List Nat) (x : Nat), prs lo (es ++ [x]) = prs lo es ++ [(es.getLast?.getD lo, x)]
  | _, [], _ => rfl
  | lo, e :: es, x => by
    show (lo, e) :: prs e (es ++ [x]) = _
    rw [prs_push e es x]
    match es with
    | [] => rfl
    | f :: es => rfl
theorem Pth.last {f : Nat → Nat} {e : Nat} {es : List Nat} (h : Pth f e es) : lastN es = e := by
  cases h with
  | z => rfl
  | s _ _ => exact lastN_push _ _
/-- a path is a plan, and costs what the table says -/
theorem Pth.plan {ns : List Int} {m : Int} (hF : Fit m ns) {n : Nat} {e : Nat} {es : List Nat} (h : Pth (fB (nsOf ns) m) e es) : e ≤ ns.length → Chain ns m 0 es e ∧ ((prs 0 es).map (sq ns m)).sum = (cs (nsOf ns) m e).getD e 0 := by
  induction h with
  | z => exact fun _ => ⟨rfl, rfl⟩
  | @s e es hp h ih =>
    intro he
    obtain ⟨e, rfl⟩ : ∃ k, e = k + 1 := ⟨e - 1, by omega⟩
    have hlt := fB_lt hF (e := e) (by omega)
    obtain ⟨ih1, ih2⟩ := ih (by omega)
    obtain ⟨p, hpm, p1, p2⟩ := fB_line hF (e := e) (by omega)
    have hg := line_gap (m := m) (e := e + 1) (by omega) p hpm
    obtain ⟨_, hg0, _⟩ := linesF_mem (hF.pos (e := e + 1) (by omega)) hpm
    rw [p1] at hg p2
    refine ⟨ih1.push hlt (by omega), ?_⟩
    rw [prs_push, List.map_append, List.sum_append, ih2]
    have hl : es.getLast?.getD 0 = fB (nsOf ns) m (e + 1) := h.last
    rw [hl, cs_at (Nat.le_refl _), ← p2, cs_pre (m := fB (nsOf ns) m (e + 1)) (n := e) (Nat.le_refl _) (by omega)]
    show _ + ((m - lenL ns (fB (nsOf ns) m (e + 1)) (e + 1)) ^ 2 + 0) = _
    rw [hg, Int.add_zero]
theorem Pth.ex {ns : List Int} {m : Int} (hF : Fit m ns) : ∀ (k e : Nat), e ≤ k → e ≤ ns.length → ∃ es, Pth (fB (nsOf ns) m) e es
  | 0, e, h, _ => by
    rw [show e = 0 by omega]
    exact ⟨[], .z⟩
  | k + 1, e, h, he => by
    by_cases h0 : e = 0
    · rw [h0]
      exact ⟨[], .z⟩
    · obtain ⟨d, rfl⟩ : ∃ d, e = d + 1 := ⟨e - 1, by omega⟩
      have := fB_lt hF (e := d) (by omega)
      obtain ⟨es, h2⟩ := Pth.ex hF k (fB (nsOf ns) m (d + 1)) (by omega) (by omega)
      exact ⟨es ++ [d + 1], .s (Nat.succ_pos _) h2⟩
def lB (ns : List Int) (m : Int) : Nat := hd (rate0 (cs (nsOf ns) m ns.length) (linesF (nsOf ns) ns.length (m + 1)))
theorem lB_line {ns : List Int} {m : Int} (hF : Fit m ns) (h0 : 0 < ns.length) : lB ns m < ns.length ∧ lenL ns (lB ns m) ns.length ≤ m := by
  obtain ⟨e, he⟩ : ∃ e, ns.length = e + 1 := ⟨ns.length - 1, by omega⟩
  have hL1 : nsOf ns e < m + 1 := by have := (hF e (by omega)).2; omega
  have hne : linesF (nsOf ns) ns.length (m + 1) ≠ [] := by rw [he]; exact linesF_ne hL1
  obtain ⟨x, hx, h1, _⟩ := hd_mem (rs := rate0 (cs (nsOf ns) m ns.length) (linesF (nsOf ns) ns.length (m + 1))) (fun z => hne (rate0_nil.mp z))
  obtain ⟨p, hp, rfl⟩ := List.mem_map.mp hx
  have hg := line_gap (m := m) (Nat.le_refl _) p hp
  obtain ⟨a, b, _⟩ := linesF_mem (hF.pos (Nat.le_refl _)) hp
  have h1 : p.1 = lB ns m := h1
  rw [← h1]
  exact ⟨a, by omega⟩
/-- the best layout -/
theorem best_plan {ns : List Int} {m : Int} (hF : Fit m ns) (h0 : 0 < ns.length) {es : List Nat} (h : Pth (fB (nsOf ns) m) (lB ns m) es) :
    Chain ns m 0 (es ++ [ns.length]) ns.length ∧ ((prs 0 (es ++ [ns.length])).dropLast.map (sq ns m)).sum = (cs (nsOf ns) m ns.length).getD (lB ns m) 0 := by
  obtain ⟨h1, h2⟩ := lB_line hF h0
  obtain ⟨a, b⟩ := h.plan hF (n := 0) (by omega)
  refine ⟨a.push h1 h2, ?_⟩
  rw [prs_push, List.dropLast_concat, b, cs_pre (m := lB ns m) (n := ns.length) (Nat.le_refl _) (by omega)]
end SL

set_option Elab.async false
set_option linter.all false
set_option maxRecDepth 100000
set_option maxHeartbeats 1000000
/-! Own layer 14: what layouts' defs promise. -/
namespace SL
open PySem PySem.Spec PyProof.Rows L2
def LeastHd (H : Hp) (v : V) (ps : List (Int × Nat)) : Prop := (ps = [] ∧ v = .non) ∨ (ps ≠ [] ∧ ∃ (a : Addr), v = .ref a ∧ H a = some (.tup [.int (least ps), natV (hd ps)]))
def LeastIx2 (n : Nat) (L : List Int) (v : V) (ps : List (Int × Nat)) : Prop := (ps = [] ∧ v = .non) ∨ (ps ≠ [] ∧ v = natV (hd ps) ∧ hd ps < n ∧ L.getD (hd ps) 0 = least ps)
def spCosts2 (K : PySem.W.Frag) : Sp := fun vs H Q _ => ∃ (m : Int) (t : Addr) (ns : List Int), vs = [.int m, .ref t] ∧ SqT K H t (ns.map V.int) ∧ Fit m ns ∧ 1 ≤ m ∧ m ≤ 1000000000 ∧ ns.length ≤ 1000 ∧
  ∀ H' r c bg, Same H H' → H' r = some (.tup [.ref c, .ref bg]) → H' c = some (.lst ((cs (nsOf ns) m ns.length).map V.int)) → H' bg = some (.lst ((bgs (nsOf ns) m ns.length).map natV)) → Q (.ref r) H'
def spLastAt2 (K : PySem.W.Frag) : Sp := fun vs H Q _ => ∃ (m : Int) (t c : Addr) (ns : List Int), vs = [.int m, .ref t, .ref c] ∧ SqT K H t (ns.map V.int) ∧ Fit m ns ∧ 1 ≤ m ∧ ns.length ≤ 1000 ∧ 0 < ns.length ∧ SqL K H c ((cs (nsOf ns) m ns.length).map V.int) ∧ Q (natV (lB ns m)) H
/-- the path from a place, by a list of begins -/
def spWay (K : PySem.W.Frag) : Sp := fun vs H Q _ => ∃ (l : Addr) (L : List Nat) (f : Nat → Nat) (e : Nat), vs = [.ref l, natV e] ∧ SqL K H l (L.map natV) ∧ (∀ k, 1 ≤ k → k ≤ e → L[k]? = some (f k) ∧ f k < k) ∧ e ≤ 1000 ∧
  ∀ H' t es, Same H H' → SqT K H' t (es.map natV) → Pth f e es → Q (.ref t) H'
def spEnds (K : PySem.W.Frag) : Sp := fun vs H Q _ => ∃ (bl : Addr) (rs : List V) (B : List (List Nat)) (f : Nat → Nat) (e : Nat), vs = [.ref bl, natV e] ∧ H bl = some (.lst rs) ∧ AllAt (fun a bs => H a = some (.lst (bs.map natV))) rs B ∧ (∀ k, 1 ≤ k → k ≤ e → ∃ bs, B[k]? = some bs ∧ bs[0]? = some (f k) ∧ f k < k) ∧ e ≤ 1000 ∧
  ∀ H' t es, Same H H' → SqT K H' t (es.map natV) → Pth f e es → Q (.ref t) H'
/-- a layout of the text: closed or best -/
def spClosedL (K : PySem.W.Frag) : Sp := fun vs H Q _ => ∃ (m : Int) (t : Addr) (ns : List Int), vs = [.int m, .ref t] ∧ SqT K H t (ns.map V.int) ∧ Fit m ns ∧ 1 ≤ m ∧ m ≤ 1000000000 ∧ ns.length ≤ 1000 ∧
  ∀ H' l es, Same H H' → SqT K H' l (es.map natV) → Pth (fB (nsOf ns) m) ns.length es → Q (.ref l) H'
def spBestL (K : PySem.W.Frag) : Sp := fun vs H Q _ => ∃ (m : Int) (t : Addr) (ns : List Int), vs = [.int m, .ref t] ∧ SqT K H t (ns.map V.int) ∧ Fit m ns ∧ 1 ≤ m ∧ m ≤ 1000000000 ∧ ns.length ≤ 1000 ∧
  ∀ H' l es, Same H H' → SqT K H' l (es.map natV) → (ns = [] → es = []) → (0 < ns.length → ∃ es0, es = es0 ++ [ns.length] ∧ Pth (fB (nsOf ns) m) (lB ns m) es0) → Q (.ref l) H'
def spClosedC (K : PySem.W.Frag) : Sp := fun vs H Q _ => ∃ (m : Int) (t : Addr) (ns : List Int), vs = [.int m, .ref t] ∧ SqT K H t (ns.map V.int) ∧ Fit m ns ∧ 1 ≤ m ∧ m ≤ 1000000000 ∧ ns.length ≤ 1000 ∧
  ∀ H', Same H H' → Q (.int ((cs (nsOf ns) m ns.length).getD ns.length 0)) H'
def spBestC (K : PySem.W.Frag) : Sp := fun vs H Q _ => ∃ (m : Int) (t : Addr) (ns : List Int), vs = [.int m, .ref t] ∧ SqT K H t (ns.map V.int) ∧ Fit m ns ∧ 1 ≤ m ∧ m ≤ 1000000000 ∧ ns.length ≤ 1000 ∧ 0 < ns.length ∧
  ∀ H', Same H H' → Q (.int ((cs (nsOf ns) m ns.length).getD (lB ns m) 0)) H'
def spIsLay (K : PySem.W.Frag) : Sp := fun vs H Q _ => ∃ (m : Int) (t l : Addr) (ns : List Int) (es : List Nat), vs = [.int m, .ref t, .ref l] ∧ SqT K H t (ns.map V.int) ∧ SqT K H l (es.map natV) ∧ Chain ns m 0 es ns.length ∧ ns.length ≤ 1000 ∧ ∀ H', Same H H' → Q (.bl true) H'
theorem fit_pos {m : Int} {ns : List Int} (h : Fit m ns) : ∀ x ∈ ns, 1 ≤ x := fun x hx => by
  obtain ⟨b, hb, rfl⟩ := List.getElem_of_mem hx
  have := (h b hb).1
  unfold nsOf at this
  rw [List.getD_eq_getElem?_getD, List.getElem?_eq_getElem hb] at this
  exact this
theorem begs_facts {m : Int} {ns : List Int} (hF : Fit m ns) : ∀ k, 1 ≤ k → k ≤ ns.length → ∃ bs, (begs (nsOf ns) m ns.length)[k]? = some bs ∧ bs[0]? = some (fB (nsOf ns) m k) ∧ fB (nsOf ns) m k < k := fun k h1 h2 => by
  obtain ⟨e, rfl⟩ : ∃ e, k = e + 1 := ⟨k - 1, by omega⟩
  have hL1 : nsOf ns e < m + 1 := by have := (hF e (by omega)).2; omega
  exact ⟨_, begs_at h2, hd_at (fun z => linesF_ne hL1 (rate_nil.mp z)), fB_lt hF (by omega)⟩
theorem bgs_facts {m : Int} {ns : List Int} (hF : Fit m ns) : ∀ k, 1 ≤ k → k ≤ ns.length → (bgs (nsOf ns) m ns.length)[k]? = some (fB (nsOf ns) m k) ∧ fB (nsOf ns) m k < k := fun k h1 h2 => by
  obtain ⟨e, rfl⟩ : ∃ e, k = e + 1 := ⟨k - 1, by omega⟩
  exact ⟨bgs_at h2, fB_lt hF (by omega)⟩
theorem lastB_at {m : Int} {ns : List Int} (hF : Fit m ns) (h0 : 0 < ns.length) : (lastB (nsOf ns) m ns.length)[0]? = some (lB ns m) := by
  obtain ⟨e, he⟩ : ∃ e, ns.length = e + 1 := ⟨ns.length - 1, by omega⟩
  have hL1 : nsOf ns e < m + 1 := by have := (hF e (by omega)).2; omega
  have hne : linesF (nsOf ns) ns.length (m + 1) ≠ [] := by rw [he]; exact linesF_ne hL1
  exact hd_at fun z => hne (rate0_nil.mp z)
theorem Pth.len {f : Nat → Nat} {e : Nat} {es : List Nat} (h : Pth f e es) : (∀ k, 1 ≤ k → k ≤ e → f k < k) → es.length ≤ e := by
  induction h with
  | z => exact fun _ => Nat.le_refl _
  | @s e es hp h ih =>
    intro hf
    have h1 := hf e hp (Nat.le_refl _)
    have h2 := ih fun k a b => hf k a (by omega)
    rw [List.length_append]
    show es.length + 1 ≤ e
    omega
theorem dq_nats {K : PySem.W.Frag} {p : Addr} {H : Hp} : ∀ es : List Nat, DqAll K p H (es.map natV) (es.map fun e : Nat => PyData.int (e : Int))
  | [] => .nil
  | e :: es => .cons (.int _) (dq_nats es)
theorem dq_tup {K : PySem.W.Frag} {p : Addr} {H : Hp} {a : Addr} {es : List Nat} (h : SqT K H a (es.map natV)) : Dq K p H (.ref a) (tupD es) := .tup h (dq_nats es)
end SL

set_option Elab.async false
set_option linter.all false
set_option maxRecDepth 100000
set_option maxHeartbeats 1000000
/-! Own layer 15: data equal to themselves; texts known by hand. -/
namespace SL
open PySem PySem.Spec PyProof.Rows L2
theorem eqv_nats : ∀ es : List Nat, PyData.eqvAll (es.map fun e : Nat => PyData.int (e : Int)) (es.map fun e : Nat => PyData.int (e : Int)) = true
  | [] => by simp [PyData.eqvAll]
  | e :: es => by simp [PyData.eqvAll, PyData.eqv, eqv_nats es]
theorem eqv_tup (es : List Nat) : PyData.eqv (tupD es) (tupD es) = true := by
  unfold tupD
  simp only [PyData.eqv]
  exact eqv_nats es
theorem eqv_two (es : List Nat) (x : Int) : PyData.eqv (.list [tupD es, .int x]) (.list [tupD es, .int x]) = true := by
  simp [PyData.eqv, PyData.eqvAll, eqv_tup]
theorem shaped_two (es : List Nat) (x : Int) : SeqAt.shaped (.list [tupD es, .int x]) = true := by
  obtain ⟨a, b⟩ := can_ints es
  unfold SeqAt.shaped tupD
  simp only [PyData.canLay0, PyData.canLayAll0, PyData.depth, PyData.depthAll, a, b]
  rfl
theorem can_row : ∀ ns : List Int, PyData.canLayAll0 (ns.map PyData.int) = true ∧ PyData.depthAll (ns.map PyData.int) = 0
  | [] => ⟨rfl, rfl⟩
  | e :: es => by
    obtain ⟨a, b⟩ := can_row es
    refine ⟨?_, ?_⟩
    · show (PyData.canLay0 (.int e) && PyData.canLayAll0 (es.map PyData.int)) = true
      rw [a]
      rfl
    · show max (PyData.depth (.int e)) (PyData.depthAll (es.map PyData.int)) = 0
      rw [b]
      rfl
theorem shaped_row (ns : List Int) : SeqAt.shaped (.tuple (ns.map PyData.int)) = true := by
  obtain ⟨a, b⟩ := can_row ns
  unfold SeqAt.shaped
  simp only [PyData.canLay0, PyData.depth, a, b]
  rfl
theorem eqv_rnil : ∀ ns : List Int, PyData.eqv (.tuple (ns.map PyData.int)) (.tuple []) = decide (ns = [])
  | [] => by simp [PyData.eqv, PyData.eqvAll]
  | _ :: _ => by simp [PyData.eqv, PyData.eqvAll]
/-! ### long words -/
section
variable {w g : Int} {k : Nat}
theorem ns_rep {x : Int} {b : Nat} (h : b < k) : nsOf (List.replicate k x) b = x := by
  unfold nsOf
  rw [List.getD_eq_getElem?_getD, List.getElem?_replicate, if_pos h]
  rfl
theorem long_line (h1 : g ≤ w) (h2 : w < 2 * g) : ∀ {e : Nat}, e < k → linesF (nsOf (List.replicate k g)) (e + 1) (w + 1) = [(e, w - g)]
  | 0, he => by
    rw [linesF_yes (by rw [ns_rep he]; omega), ns_rep he, show w + 1 - (g + 1) = w - g by omega]
    rfl
  | e + 1, he => by
    rw [linesF_yes (by rw [ns_rep he]; omega), ns_rep he, show w + 1 - (g + 1) = w - g by omega, linesF_no (by rw [ns_rep (by omega)]; omega)]
theorem long_cost (h1 : g ≤ w) (h2 : w < 2 * g) : ∀ {e n : Nat}, e ≤ n → e ≤ k → (cs (nsOf (List.replicate k g)) w n).getD e 0 = e * (w - g) ^ 2
  | 0, n, _, _ => by
    rw [cs_pre (m := 0) (Nat.le_refl _) (Nat.zero_le _)]
    show (0 : Int) = 0 * _
    rw [Int.zero_mul]
  | e + 1, n, he, hk => by
    rw [cs_at he, long_line h1 h2 (by omega)]
    show (cs (nsOf (List.replicate k g)) w e).getD e 0 + (w - g) ^ 2 = _
    rw [long_cost h1 h2 (Nat.le_refl e) (by omega), Int.natCast_add, Int.add_mul]
    show _ = _ + 1 * _
    rw [Int.one_mul]
theorem long_fB (h1 : g ≤ w) (h2 : w < 2 * g) {e : Nat} (he : e < k) : fB (nsOf (List.replicate k g)) w (e + 1) = e := by
  show hd (rate _ (linesF _ (e + 1) (w + 1))) = e
  rw [long_line h1 h2 he]
  exact hd_one _
theorem long_path (h1 : g ≤ w) (h2 : w < 2 * g) : ∀ {e : Nat}, e ≤ k → Pth (fB (nsOf (List.replicate k g)) w) e (List.range' 1 e)
  | 0, _ => .z
  | e + 1, he => by
    rw [List.range'_concat, Nat.one_mul, Nat.add_comm 1 e]
    refine .s (Nat.succ_pos _) ?_
    rw [long_fB h1 h2 he]
    exact long_path h1 h2 (by omega)
theorem long_last (h1 : g ≤ w) (h2 : w < 2 * g) : lB (List.replicate (k + 1) g) w = k := by
  unfold lB
  rw [List.length_replicate, long_line h1 h2 (Nat.lt_succ_self k)]
  exact hd_one _
end
theorem all_300 : (List.range' 1 300).map natV = rgV 1 301 := by decide +kernel
/-! ### short words in one line -/
theorem sum_rep : ∀ k : Nat, (List.replicate k (1 : Int)).sum = k
  | 0 => rfl
  | k + 1 => by
    rw [List.replicate_succ, List.sum_cons, sum_rep k]
    omega
theorem len_ones {lo hi : Nat} (h : lo ≤ hi) (h2 : hi ≤ 150) : lenL (List.replicate 150 1) lo hi = 2 * ((hi : Int) - lo) - 1 := by
  unfold lenL
  rw [List.drop_replicate, List.take_replicate, sum_rep, Nat.min_eq_left (by omega)]
  omega
theorem fit_ones : Fit 300 (List.replicate 150 1) := fun b hb => by
  rw [List.length_replicate] at hb
  rw [ns_rep hb]
  decide
theorem ones_pos : ∀ (n b : Nat), b ≤ n → b ≤ 149 → 0 ≤ (cs (nsOf (List.replicate 150 1)) 300 b).getD b 0 ∧ (0 < b → 0 < (cs (nsOf (List.replicate 150 1)) 300 b).getD b 0)
  | 0, b, hb, _ => by
    rw [show b = 0 by omega]
    exact ⟨by show (0 : Int) ≤ 0; decide, fun h => by omega⟩
  | n + 1, b, hb, h9 => by
    by_cases h0 : b = 0
    · rw [h0]
      exact ⟨by show (0 : Int) ≤ 0; decide, fun h => by omega⟩
    · obtain ⟨e, rfl⟩ : ∃ e, b = e + 1 := ⟨b - 1, by omega⟩
      have hl : (List.replicate 150 (1 : Int)).length = 150 := List.length_replicate ..
      obtain ⟨p, hp, _, p2⟩ := fB_line fit_ones (e := e) (by rw [hl]; omega)
      have hg := line_gap (m := 300) (ns := List.replicate 150 1) (e := e + 1) (by rw [hl]; omega) p hp
      obtain ⟨hlt, _, _⟩ := linesF_mem (fit_ones.pos (e := e + 1) (by rw [hl]; omega)) hp
      have h1 := (ones_pos n p.1 (by omega) (by omega)).1
      rw [cs_at (Nat.le_refl _), ← p2, cs_pre (m := p.1) (n := e) (Nat.le_refl _) (by omega)]
      rw [len_ones (by omega) (by omega)] at hg
      have h2 : 0 < p.2 ^ 2 := Int.pow_pos (by omega)
      exact ⟨by omega, fun _ => by omega⟩
theorem ones_zero : ∀ (b : Nat) (f : Int), b < 150 → 2 * ((b : Int) + 1) ≤ f → ∃ p ∈ linesF (nsOf (List.replicate 150 1)) (b + 1) f, p.1 = 0
  | 0, f, hb, hf => by
    rw [linesF_yes (by rw [ns_rep hb]; omega)]
    exact ⟨_, List.mem_cons_self .., rfl⟩
  | b + 1, f, hb, hf => by
    rw [linesF_yes (by rw [ns_rep hb]; omega), ns_rep hb]
    obtain ⟨p, hp, h⟩ := ones_zero b (f - (1 + 1)) (by omega) (by omega)
    exact ⟨p, List.mem_cons_of_mem _ hp, h⟩
theorem ones_last : lB (List.replicate 150 1) 300 = 0 := by
  have hl : (List.replicate 150 (1 : Int)).length = 149 + 1 := List.length_replicate ..
  obtain ⟨p, hp, h0⟩ := ones_zero 149 301 (by omega) (by decide)
  have hne : linesF (nsOf (List.replicate 150 1)) (149 + 1) (300 + 1) ≠ [] := fun z => by
    have hp : p ∈ linesF (nsOf (List.replicate 150 1)) (149 + 1) (300 + 1) := hp
    rw [z] at hp
    cases hp
  have all : ∀ q ∈ linesF (nsOf (List.replicate 150 1)) (149 + 1) (300 + 1), 0 ≤ (cs (nsOf (List.replicate 150 1)) 300 150).getD q.1 0 ∧ (0 < q.1 → 0 < (cs (nsOf (List.replicate 150 1)) 300 150).getD q.1 0) := fun q hq => by
    have := (linesF_mem (fit_ones.pos (e := 149 + 1) (by rw [hl]; omega)) hq).1
    rw [cs_pre (m := q.1) (n := 150) (Nat.le_refl _) (by omega)]
    exact ones_pos 149 q.1 (by omega) (by omega)
  unfold lB
  rw [hl]
  obtain ⟨x, hx, h1, h2⟩ := hd_mem (rs := rate0 (cs (nsOf (List.replicate 150 1)) 300 (149 + 1)) (linesF (nsOf (List.replicate 150 1)) (149 + 1) (300 + 1))) (fun z => hne (rate0_nil.mp z))
  obtain ⟨q, hq, rfl⟩ := List.mem_map.mp hx
  obtain ⟨a1, a2⟩ := all q hq
  have hle := (least_spec (rs := rate0 (cs (nsOf (List.replicate 150 1)) 300 (149 + 1)) (linesF (nsOf (List.replicate 150 1)) (149 + 1) (300 + 1))) (fun z => hne (rate0_nil.mp z))).2 _ (List.mem_map.mpr ⟨p, hp, rfl⟩)
  have hz : (cs (nsOf (List.replicate 150 1)) 300 (149 + 1)).getD p.1 0 = 0 := by
    rw [h0, cs_pre (m := 0) (n := 149 + 1) (Nat.le_refl _) (by omega)]
    rfl
  rw [← h1]
  show q.1 = 0
  have h2 : (cs (nsOf (List.replicate 150 1)) 300 150).getD q.1 0 = least (rate0 (cs (nsOf (List.replicate 150 1)) 300 (149 + 1)) (linesF (nsOf (List.replicate 150 1)) (149 + 1) (300 + 1))) := h2
  have hle : least (rate0 (cs (nsOf (List.replicate 150 1)) 300 (149 + 1)) (linesF (nsOf (List.replicate 150 1)) (149 + 1) (300 + 1))) ≤ (cs (nsOf (List.replicate 150 1)) 300 (149 + 1)).getD p.1 0 := hle
  by_cases h : 0 < q.1
  · have := a2 h
    omega
  · omega
theorem fit_of {m : Int} {ns : List Int} (h : ∀ x ∈ ns, 1 ≤ x ∧ x ≤ m) : Fit m ns := fun b hb => by
  unfold nsOf
  rw [List.getD_eq_getElem?_getD, List.getElem?_eq_getElem hb]
  exact h _ (List.getElem_mem hb)
end SL

set_option Elab.async false
set_option linter.all false
set_option maxRecDepth 100000
set_option maxHeartbeats 2000000
/-! Own layer 16: tuples turned round; the table is the least over all chains; texts turned round. -/
namespace SL
open PySem PySem.Spec PyProof.Rows L2
theorem fm_congr {α β : Type} {f g : α → Option β} : ∀ {l : List α}, (∀ x ∈ l, f x = g x) → l.filterMap f = l.filterMap g
  | [], _ => rfl
  | x :: l, h => by
    rw [List.filterMap_cons, List.filterMap_cons, h x (List.mem_cons_self ..), fm_congr fun y hy => h y (List.mem_cons_of_mem _ hy)]
theorem pick_rev (xs : Array Value) : ((List.range xs.size).filterMap fun (m : Nat) => xs[(((xs.size : Int) - 1) + (m : Int) * (-1)).toNat]?).toArray = xs.toList.reverse.toArray := by
  have h := HT.pick_gen (xs.toList.reverse.toArray) 0 xs.size
  have e2 : ((xs.toList.reverse.toArray).toList.drop 0).take xs.size = xs.toList.reverse := by
    rw [List.drop_zero]
    exact List.take_of_length_le (by simp)
  rw [e2] at h
  rw [← h]
  congr 1
  refine fm_congr fun m hm => ?_
  have hm : m < xs.size := List.mem_range.mp hm
  have e3 : (((xs.size : Int) - 1) + (m : Int) * (-1)).toNat = xs.size - 1 - m := by omega
  have e4 : (((0 : Nat) : Int) + (m : Int) * 1).toNat = m := by omega
  rw [e3, e4]
  have e5 : (xs.toList.reverse.toArray)[m]? = xs.toList.reverse[m]? := by simp
  rw [e5, List.getElem?_reverse (by rw [Array.length_toList]; exact hm), Array.length_toList, Array.getElem?_toList]
section
variable {prog : Program} {w : World} {A : Around} {E : Value → Shared → Prop} {s : Shared}
theorem sliceApplied_rev {sl : Addr} {vl vu vs : Value} {n : Nat} {Q : Int × Int × Nat → Shared → Prop} (hs : s.heap.IsSliceOf sl vl vu vs) (pl : IsPart vl none) (pu : IsPart vu none) (ps : IsPart vs (some (-1)))
    (h : Q ((n : Int) - 1, -1, n) s) : wpAny (model prog w) A (Builtin.Slice.sliceApplied (.ref sl) (pure (n : Int))) Q E s := by
  obtain ⟨os, hos, hcs, hds⟩ := id hs
  unfold Builtin.Slice.sliceApplied Builtin.Slice.sliceFields
  refine wpAny_bind (wpAny_bind (wpAny_field hos hds (x := vl) rfl (wpAny_bind (wpAny_field hos hds (x := vu) rfl (wpAny_bind (wpAny_field hos hds (x := vs) rfl (wpAny_pure ?_)))))))
  refine wpAny_bind (HT.slicePart_ ps ?_)
  show wpAny _ _ (if ((-1 : Int) == 0) = true then _ else _) _ _ s
  rw [if_neg (by decide)]
  refine wpAny_bind (HT.slicePart_ pl (wpAny_bind (HT.slicePart_ pu (wpAny_bind (wpAny_pure ?_)))))
  show wpAny _ _ (match Builtin.Slice.sliceAdjust none none (-1) (n : Int) with | (lo, hi) => pure (lo, (-1 : Int), Builtin.Slice.slicePlaces lo hi (-1))) _ _ s
  have e : Builtin.Slice.sliceAdjust none none (-1) (n : Int) = ((n : Int) - 1, -1) := by
    unfold Builtin.Slice.sliceAdjust
    rfl
  rw [e]
  show wpAny _ _ (pure ((n : Int) - 1, (-1 : Int), Builtin.Slice.slicePlaces ((n : Int) - 1) (-1) (-1))) _ _ s
  have e2 : Builtin.Slice.slicePlaces ((n : Int) - 1) (-1) (-1) = n := by
    unfold Builtin.Slice.slicePlaces
    have h1 : ¬ ((-1 : Int) > 0) := by omega
    simp only [h1, if_false]
    split <;> simp <;> omega
  rw [e2]
  exact wpAny_pure h
theorem getItem_tuple_rev {t sl : Addr} {items : Array Value} {vl vu vs : Value} {Q : Value → Shared → Prop} (ht : IsTup s.heap t items) (hs : s.heap.IsSliceOf sl vl vu vs) (pl : IsPart vl none) (pu : IsPart vu none) (ps : IsPart vs (some (-1)))
    (h : Q (.ref s.heap.objs.size) { s with heap := s.heap.push { cls := .type "tuple", data := .seq items.toList.reverse.toArray } })
    (hsz : items.size ≤ sizeLine) : wpAny (model prog w) A (getItem (.ref t) (.ref sl)) Q E s := by
  have htake : sizeOk (.seq items.toList.reverse.toArray) := by
    show items.toList.reverse.toArray.size ≤ sizeLine
    rw [List.size_toArray, List.length_reverse, Array.length_toList]
    exact hsz
  obtain ⟨os, hos, hcs, hds⟩ := id hs
  have hTs : s.TypeIs (.ref sl) "slice" := ⟨os, hos, hcs⟩
  unfold getItem
  try with_reducible refine wpAny_holding ?_
  first | refine wpAny_bind (wpAny_pure ?_) | skip
  refine wpAny_bind (wpAny_sequenceKey ht.typeIs (by decide) ?_)
  refine wpAny_bind (wpAny_callSpecial?_slot (name := Str.ofString "__getitem__") ht.typeIs PyProof.Rows.slot_tuple_getitem
    (wpAny_call_entry PyProof.Rows.slot_tuple_getitem ht.typeIs entry_tuple_getitem ?_ (args_tuple_getitem _ _)))
  show wpAny _ _ (Builtin.Tuple.tupleItemsOf (.ref t) >>= _) _ _ s
  refine wpAny_bind (tupleItemsOf_ ht ?_)
  refine wpAny_bind (wpAny_typeOf hTs ?_)
  rw [if_pos (by decide)]
  refine wpAny_bind (sliceApplied_rev hs pl pu ps ?_)
  have hno : ¬ ((((items.size : Int) - 1) == 0 && (-1 : Int) == 1 && items.size == items.size) = true) := by
    intro q
    rw [Bool.and_eq_true, Bool.and_eq_true] at q
    exact absurd (eq_of_beq q.1.2) (by decide)
  show wpAny _ _ (if (((items.size : Int) - 1) == 0 && (-1 : Int) == 1 && items.size == items.size) = true then _ else _) _ _ s
  rw [if_neg hno, pick_rev]
  first
    | exact wpAny_bind (m := Builtin.Tuple.tupleExact _) (wpAny_newObj_type (wpAny_pure ⟨_, rfl, wpAny_pure h⟩) htake)
    | exact wpAny_bind (m := Builtin.Tuple.tupleExact _) (wpAny_newObj_type (wpAny_bind (wpAny_pure (wpAny_pure ⟨_, rfl, wpAny_pure h⟩))) htake)
    | exact wpAny_bind (wpAny_bind (m := Builtin.Tuple.tupleExact _) (wpAny_newObj_type (wpAny_pure (wpAny_pure ⟨_, rfl, wpAny_pure h⟩)) htake))
    | exact wpAny_bind (wpAny_bind (m := Builtin.Tuple.tupleExact _) (wpAny_newObj_type (wpAny_pure ⟨_, rfl, wpAny_pure h⟩) htake))
end
section
variable {X : Cx}
def tRevT (K : PySem.W.Frag) (te : TE) : TE := fun σ H Q => te σ H fun x H1 => ∃ a xs, x = .ref a ∧ SqT K H1 a xs ∧ ∀ p, H1 p = none → Q (.ref p) (upd H1 p (.tup xs.reverse))
theorem pe_revT {e : Expr} {te : TE} {k : Nat} {p1 p2 p3 pos : Pos} (he : PE X e te) : PE X (.Subscript e (.Slice none none (some (.UnaryOp .USub (.Constant (.int 1) k p1) p2)) p3) pos) (tRevT X.K te) := by
  refine ⟨fun pins s σ H Q I h => ?_⟩
  refine Subscript_ (thn (he.run pins s σ H _ I h) fun v s1 ⟨x, H1, I1, r1, q1⟩ => ?_)
  obtain ⟨a, xs, ex, hx, q⟩ := q1
  subst ex
  cases r1
  have hst : PO X (some (.UnaryOp .USub (.Constant (.int 1) k p1) p2)) (tPart (tUn (rU fun i => .int (-i)) (tC (.int 1)))) := po_some (pe_un un_neg pe_int)
  refine wpAny_Slice (thn (po_none.run pins s1 σ H1 (fun o H2 => o = none ∧ H2 = H1) I1 ⟨rfl, rfl⟩) fun vl s2 ⟨l, H2, I2, pl, el, e2⟩ => ?_)
  subst el e2
  refine thn (po_none.run pins s2 σ H2 (fun o H3 => o = none ∧ H3 = H2) I2 ⟨rfl, rfl⟩) fun vu s3 ⟨u, H3, I3, pu, eu, e3⟩ => ?_
  subst eu e3
  refine thn (hst.run pins s3 σ H3 (fun o H4 => o = some (-1) ∧ H4 = H3) I3 ⟨1, rfl, -1, rfl, rfl, rfl⟩) fun vs s4 ⟨o, H4, I4, ps, eo, e4⟩ => ?_
  subst eo e4
  have I5 : Inv X pins σ H4 { s4 with heap := s4.heap.push { cls := .type "slice", data := .fields #[vl, vu, vs] } } := I4.kept (t' := s4.toks) fun b ob q => Heap.get?_push_of_some _ q
  obtain ⟨its, r, ht, hz⟩ := I5.tuple hx
  have hlen := r.length
  show wpAny (model X.prog X.w) X.A (subscriptTail e (.Slice none none (some (.UnaryOp .USub (.Constant (.int 1) k p1) p2)) p3) (.ref a) (.ref s4.heap.objs.size)) (EP X pins σ Q) X.xe { s4 with heap := s4.heap.push { cls := .type "slice", data := .fields #[vl, vu, vs] } }
  refine tail_any (ops := [.ref a, .ref s4.heap.objs.size]) ht.typeIs (PyProof.Rows.slot_tuple_getitem.lookup) ?_ (by with_unfolding_all rfl)
  refine getItem_tuple_rev ht (Heap.IsSliceOf.new _ vl vu vs) pl pu ps ?_ (by rw [List.size_toArray]; omega)
  refine ⟨.ref _, _, I5.laid (t' := s4.toks) (o := .tup xs.reverse) (fun b ob q => Heap.get?_push_of_some _ q) (Nat.le_refl _) ?_, rfl, q _ (I5.hok.fresh (Nat.le_refl _))⟩
  exact ⟨by rw [List.length_reverse]; exact hz, its.reverse, r.reverse, IsTup.new _ _⟩
end
end SL

set_option Elab.async false
set_option linter.all false
set_option maxRecDepth 100000
set_option maxHeartbeats 1000000
/-! Own layer 17: the table is the least over all chains; texts turned round. -/
namespace SL
open PySem PySem.Spec PyProof.Rows L2
theorem Chain.pop {ns : List Int} {m : Int} {e : Nat} : ∀ {lo : Nat} {es : List Nat} {hi : Nat}, Chain ns m lo (es ++ [e]) hi → e = hi ∧ ∃ b, Chain ns m lo es b ∧ b < e ∧ lenL ns b e ≤ m
  | lo, [], hi, h => ⟨h.2.2, lo, rfl, h.1, h.2.1⟩
  | lo, f :: es, hi, h => by
    obtain ⟨a, b, c, d⟩ := Chain.pop (lo := f) (es := es) h.2.2
    exact ⟨a, b, ⟨h.1, h.2.1, c⟩, d⟩
theorem Chain.lastG {ns : List Int} {m : Int} : ∀ {lo : Nat} {es : List Nat} {hi : Nat}, Chain ns m lo es hi → es.getLast?.getD lo = hi
  | lo, [], hi, h => h
  | lo, e :: es, hi, h => by
    have h2 := Chain.lastG h.2.2
    match es, h2 with
    | [], h2 => exact h2
    | f :: es, h2 =>
      rw [List.getLast?_cons_cons]
      match q : (f :: es).getLast? with
      | none => simp at q
      | some x =>
        rw [q] at h2
        exact h2
theorem lenL_mono {ns : List Int} (hp : ∀ x ∈ ns, 1 ≤ x) {e : Nat} (he : e ≤ ns.length) : ∀ (d b : Nat), b + d < e → lenL ns (b + d) e ≤ lenL ns b e
  | 0, _, _ => Int.le_refl _
  | d + 1, b, h => by
    have h1 := lenL_mono hp he d (b + 1) (by omega)
    rw [show b + 1 + d = b + (d + 1) by omega] at h1
    have h2 := lenL_step (ns := ns) (b := b) (e := e) (by omega) he
    have h3 : 0 ≤ nsOf ns b := by
      unfold nsOf
      rw [List.getD_eq_getElem?_getD, List.getElem?_eq_getElem (show b < ns.length by omega)]
      have := hp _ (List.getElem_mem (show b < ns.length by omega))
      show 0 ≤ ns[b]
      omega
    omega
theorem line_in {ns : List Int} {m : Int} (hp : ∀ x ∈ ns, 1 ≤ x) {b e : Nat} (he : e ≤ ns.length) (hl : lenL ns b e ≤ m) : ∀ {k : Nat} {f : Int}, b < k → k ≤ e → (k < e → f = m - lenL ns k e) → (k = e → f = m + 1) → (b, m - lenL ns b e) ∈ linesF (nsOf ns) k f
  | 0, _, h, _, _, _ => by omega
  | j + 1, f, h, hk, h1, h2 => by
    have hm : lenL ns j e ≤ lenL ns b e := by
      have := lenL_mono hp he (j - b) b (by omega)
      rwa [show b + (j - b) = j by omega] at this
    have hg : f - (nsOf ns j + 1) = m - lenL ns j e := by
      by_cases hbe : j + 1 = e
      · rw [h2 hbe, ← hbe, lenL_one (by omega)]
        omega
      · rw [h1 (by omega), lenL_step (b := j) (by omega) he]
        omega
    rw [linesF_yes (by omega), hg]
    by_cases hj : j = b
    · rw [hj]
      exact List.mem_cons_self ..
    · exact List.mem_cons_of_mem _ (line_in hp he hl (by omega) (by omega) (fun _ => rfl) (fun h => by omega))
theorem opt {ns : List Int} {m : Int} (hF : Fit m ns) : ∀ (k : Nat) (es : List Nat) (e : Nat), es.length ≤ k → Chain ns m 0 es e → e ≤ ns.length → (cs (nsOf ns) m e).getD e 0 ≤ ((prs 0 es).map (sq ns m)).sum := by
  intro k
  induction k with
  | zero =>
    intro es e hl h he
    match es, hl, h with
    | [], _, h =>
      obtain rfl : 0 = e := h
      exact Int.le_refl _
  | succ k ih =>
    intro es e hl h he
    by_cases h0 : es = []
    · subst h0
      obtain rfl : 0 = e := h
      exact Int.le_refl _
    · obtain ⟨es', x, rfl⟩ : ∃ es' x, es = es' ++ [x] := ⟨es.dropLast, es.getLast h0, (List.dropLast_concat_getLast h0).symm⟩
      obtain ⟨rfl, b, hb, hlt, hle⟩ := h.pop
      rw [List.length_append] at hl
      have hi := ih es' b (by have : [x].length = 1 := rfl; omega) hb (by omega)
      have hin := line_in (fit_pos hF) he hle (k := x) (f := m + 1) hlt (Nat.le_refl _) (fun h => by omega) (fun _ => rfl)
      obtain ⟨d, rfl⟩ : ∃ d, x = d + 1 := ⟨x - 1, by omega⟩
      have hne : rate (cs (nsOf ns) m d) (linesF (nsOf ns) (d + 1) (m + 1)) ≠ [] := fun z => by
        rw [rate_nil.mp z] at hin
        cases hin
      have hmin := (least_spec hne).2 _ (List.mem_map.mpr ⟨_, hin, rfl⟩)
      dsimp only at hmin
      rw [cs_pre (m := b) (n := d) (Nat.le_refl _) (by omega)] at hmin
      rw [cs_at (Nat.le_refl _), prs_push, List.map_append, List.sum_append, hb.lastG]
      show _ ≤ _ + ((m - lenL ns b (d + 1)) ^ 2 + 0)
      omega
theorem closed_least {ns : List Int} {m : Int} (hF : Fit m ns) {es : List Nat} (h : Chain ns m 0 es ns.length) : (cs (nsOf ns) m ns.length).getD ns.length 0 ≤ ((prs 0 es).map (sq ns m)).sum := opt hF _ es _ (Nat.le_refl _) h (Nat.le_refl _)
theorem closed_ex {ns : List Int} {m : Int} (hF : Fit m ns) : ∃ es, Pth (fB (nsOf ns) m) ns.length es ∧ Chain ns m 0 es ns.length ∧ ((prs 0 es).map (sq ns m)).sum = (cs (nsOf ns) m ns.length).getD ns.length 0 := by
  obtain ⟨es, h⟩ := Pth.ex hF ns.length ns.length (Nat.le_refl _) (Nat.le_refl _)
  obtain ⟨a, b⟩ := h.plan hF (n := 0) (Nat.le_refl _)
  exact ⟨es, h, a, b⟩
theorem best_le {ns : List Int} {m : Int} (hF : Fit m ns) : (cs (nsOf ns) m ns.length).getD (lB ns m) 0 ≤ (cs (nsOf ns) m ns.length).getD ns.length 0 := by
  by_cases h0 : ns.length = 0
  · obtain rfl : ns = [] := List.eq_nil_of_length_eq_zero h0
    exact Int.le_refl _
  · obtain ⟨e, he⟩ : ∃ e, ns.length = e + 1 := ⟨ns.length - 1, by omega⟩
    obtain ⟨p, hp, _, p2⟩ := fB_line hF (e := e) (by omega)
    have hlt := (linesF_mem (hF.pos (e := e + 1) (by omega)) hp).1
    have hp' : p ∈ linesF (nsOf ns) ns.length (m + 1) := by rw [he]; exact hp
    have hne : rate0 (cs (nsOf ns) m ns.length) (linesF (nsOf ns) ns.length (m + 1)) ≠ [] := fun z => by
      rw [rate0_nil.mp z] at hp'
      cases hp'
    have hmin := (least_spec hne).2 _ (List.mem_map.mpr ⟨_, hp', rfl⟩)
    obtain ⟨x, hx, h1, h2⟩ := hd_mem hne
    obtain ⟨q, hq, rfl⟩ := List.mem_map.mp hx
    have h1 : q.1 = lB ns m := h1
    have h2 : (cs (nsOf ns) m ns.length).getD q.1 0 = least (rate0 (cs (nsOf ns) m ns.length) (linesF (nsOf ns) ns.length (m + 1))) := h2
    rw [← h1, h2]
    dsimp only at hmin
    refine Int.le_trans hmin ?_
    rw [he, cs_at (Nat.le_refl _), ← p2, cs_pre (m := p.1) (n := e + 1) (Nat.le_refl _) (by omega), cs_pre (m := p.1) (n := e) (Nat.le_refl _) (by omega)]
    have h9 : 0 ≤ p.2 := (linesF_mem (hF.pos (e := e + 1) (by omega)) hp).2.1
    have h8 : 0 ≤ p.2 ^ 2 := Int.pow_nonneg h9
    omega
/-! ### turned round -/
def con : List Nat → List (Nat × Nat)
  | [] => []
  | a :: t => prs a t
theorem con_push : ∀ (l : List Nat) (b x : Nat), con ((l ++ [b]) ++ [x]) = con (l ++ [b]) ++ [(b, x)]
  | [], _, _ => rfl
  | a :: t, b, x => by
    show prs a ((t ++ [b]) ++ [x]) = prs a (t ++ [b]) ++ [(b, x)]
    rw [prs_push a (t ++ [b]) x, List.getLast?_concat]
    rfl
theorem con_reverse : ∀ l : List Nat, con l.reverse = (con l).reverse.map fun p => (p.2, p.1)
  | [] => rfl
  | [_] => rfl
  | a :: b :: t => by
    rw [List.reverse_cons, List.reverse_cons, con_push, ← List.reverse_cons, con_reverse (b :: t)]
    show _ = ((a, b) :: prs b t).reverse.map _
    rw [List.reverse_cons, List.map_append]
    rfl
theorem prs_map (f : Nat → Nat) : ∀ (lo : Nat) (es : List Nat), prs (f lo) (es.map f) = (prs lo es).map fun p => (f p.1, f p.2)
  | _, [] => rfl
  | lo, e :: es => by
    show (f lo, f e) :: prs (f e) (es.map f) = _
    rw [prs_map f e es]
    rfl
theorem con_map (f : Nat → Nat) : ∀ l : List Nat, con (l.map f) = (con l).map fun p => (f p.1, f p.2)
  | [] => rfl
  | a :: t => prs_map f a t
def turnL (es : List Nat) : List Nat := if es = [] then [] else ((0 :: es.dropLast).reverse).map fun x => lastN es - x
theorem turn_cons {es : List Nat} (h : es ≠ []) : 0 :: turnL es = ((0 :: es).reverse).map fun x => lastN es - x := by
  have e1 : es = es.dropLast ++ [lastN es] := by
    have := (List.dropLast_concat_getLast h).symm
    unfold lastN
    rw [List.getLast?_eq_some_getLast h]
    exact this
  unfold turnL
  rw [if_neg h]
  have e2 : (0 :: es).reverse = lastN es :: (0 :: es.dropLast).reverse := by
    conv => lhs; rw [e1]
    rw [← List.cons_append, List.reverse_append]
    rfl
  rw [e2, List.map_cons, Nat.sub_self]
theorem turn_prs {es : List Nat} (h : es ≠ []) : prs 0 (turnL es) = (prs 0 es).reverse.map fun p => (lastN es - p.2, lastN es - p.1) := by
  show con (0 :: turnL es) = _
  rw [turn_cons h, con_map, con_reverse, List.map_map]
  rfl
theorem turn_last {es : List Nat} (h : es ≠ []) : (turnL es).getLast?.getD 0 = lastN es := by
  unfold turnL
  rw [if_neg h, List.getLast?_map, List.getLast?_reverse]
  rfl
theorem turn_ne {es : List Nat} (h : es ≠ []) : turnL es ≠ [] := by
  unfold turnL
  rw [if_neg h]
  simp
theorem turn_turn {es : List Nat} (hle : ∀ x ∈ es, x ≤ lastN es) : turnL (turnL es) = es := by
  by_cases h : es = []
  · subst h
    rfl
  · have h2 := turn_ne h
    have h3 : lastN (turnL es) = lastN es := turn_last h
    have h4 := turn_cons h2
    rw [h3, turn_cons h, ← List.map_reverse, List.reverse_reverse, List.map_map] at h4
    have h5 : (0 :: es).map ((fun x => lastN es - x) ∘ fun x => lastN es - x) = 0 :: es := by
      have : ∀ l : List Nat, (∀ x ∈ l, x ≤ lastN es) → l.map ((fun x => lastN es - x) ∘ fun x => lastN es - x) = l := by
        intro l
        induction l with
        | nil => exact fun _ => rfl
        | cons a l ih =>
          intro hl
          rw [List.map_cons, ih fun x hx => hl x (List.mem_cons_of_mem _ hx)]
          have := hl a (List.mem_cons_self ..)
          congr 1
          show lastN es - (lastN es - a) = a
          omega
      exact this _ fun x hx => by
        rcases List.mem_cons.mp hx with rfl | hx
        · exact Nat.zero_le _
        · exact hle x hx
    rw [h5] at h4
    injection h4
theorem sum_rev : ∀ l : List Int, l.reverse.sum = l.sum
  | [] => rfl
  | x :: l => by
    rw [List.reverse_cons, List.sum_append, sum_rev l, List.sum_cons, List.sum_cons, List.sum_nil]
    omega
theorem lenL_rev {ns : List Int} {lo hi : Nat} (h : lo ≤ hi) (h2 : hi ≤ ns.length) : lenL ns.reverse (ns.length - hi) (ns.length - lo) = lenL ns lo hi := by
  unfold lenL
  have e1 : ns.reverse.drop (ns.length - hi) = (ns.take hi).reverse := by
    rw [List.drop_reverse]
    congr 2
    omega
  have e2 : (ns.take hi).reverse.take (ns.length - lo - (ns.length - hi)) = ((ns.take hi).drop lo).reverse := by
    rw [List.take_reverse, List.length_take]
    congr 2
    omega
  rw [e1, e2, sum_rev, List.drop_take]
  omega
theorem Chain.of_prs {ns : List Int} {m : Int} : ∀ {lo : Nat} {es : List Nat} {hi : Nat}, (∀ p ∈ SL.prs lo es, p.1 < p.2 ∧ lenL ns p.1 p.2 ≤ m) → es.getLast?.getD lo = hi → Chain ns m lo es hi
  | lo, [], hi, _, h => h
  | lo, e :: es, hi, h, h2 => by
    obtain ⟨a, b⟩ := h (lo, e) (List.mem_cons_self ..)
    refine ⟨a, b, Chain.of_prs (fun p hp => h p (List.mem_cons_of_mem _ hp)) ?_⟩
    match es, h2 with
    | [], h2 => exact h2
    | f :: es, h2 =>
      rw [List.getLast?_cons_cons] at h2
      match q : (f :: es).getLast? with
      | none => simp at q
      | some x =>
        rw [q] at h2
        exact h2
theorem turn_chain {ns : List Int} {m : Int} {es : List Nat} (h : Chain ns m 0 es ns.length) : Chain ns.reverse m 0 (turnL es) ns.length ∧ ((prs 0 (turnL es)).map (sq ns.reverse m)).sum = ((prs 0 es).map (sq ns m)).sum := by
  by_cases h0 : es = []
  · subst h0
    have h1 : 0 = ns.length := h
    exact ⟨h1, rfl⟩
  · have hl : lastN es = ns.length := h.lastN
    have hp := turn_prs h0
    rw [hl] at hp
    refine ⟨Chain.of_prs (fun p hpm => ?_) (by rw [turn_last h0, hl]), ?_⟩
    · rw [hp] at hpm
      obtain ⟨q, hq, rfl⟩ := List.mem_map.mp hpm
      obtain ⟨a, b, c⟩ := h.prs q (List.mem_reverse.mp hq)
      refine ⟨by show ns.length - q.2 < ns.length - q.1; omega, ?_⟩
      rw [lenL_rev (by omega) b]
      exact c
    · rw [hp, List.map_map]
      have e : (prs 0 es).reverse.map (sq ns.reverse m ∘ fun p => (ns.length - p.2, ns.length - p.1)) = ((prs 0 es).map (sq ns m)).reverse := by
        rw [← List.map_reverse]
        refine List.map_congr_left fun q hq => ?_
        obtain ⟨a, b, c⟩ := h.prs q (List.mem_reverse.mp hq)
        show (m - lenL ns.reverse (ns.length - q.2) (ns.length - q.1)) ^ 2 = (m - lenL ns q.1 q.2) ^ 2
        rw [lenL_rev (by omega) b]
      rw [e, sum_rev]
theorem fit_all {m : Int} {ns : List Int} (h : Fit m ns) : ∀ x ∈ ns, 1 ≤ x ∧ x ≤ m := fun x hx => by
  obtain ⟨b, hb, rfl⟩ := List.getElem_of_mem hx
  have := h b hb
  unfold nsOf at this
  rw [List.getD_eq_getElem?_getD, List.getElem?_eq_getElem hb] at this
  exact this
theorem fit_rev {m : Int} {ns : List Int} (h : Fit m ns) : Fit m ns.reverse := fit_of fun x hx => fit_all h x (List.mem_reverse.mp hx)
theorem closed_rev_le {m : Int} {ns : List Int} (h : Fit m ns) : (cs (nsOf ns.reverse) m ns.length).getD ns.length 0 ≤ (cs (nsOf ns) m ns.length).getD ns.length 0 := by
  obtain ⟨es, _, a, b⟩ := closed_ex h
  obtain ⟨c, d⟩ := turn_chain a
  have hl := List.length_reverse (as := ns)
  have := closed_least (fit_rev h) (es := turnL es) (by rw [hl]; exact c)
  rw [hl, d, b] at this
  exact this
theorem closed_rev {m : Int} {ns : List Int} (h : Fit m ns) : (cs (nsOf ns.reverse) m ns.length).getD ns.length 0 = (cs (nsOf ns) m ns.length).getD ns.length 0 := by
  have h1 := closed_rev_le h
  have h2 := closed_rev_le (fit_rev h)
  rw [List.reverse_reverse, List.length_reverse] at h2
  omega
end SL

set_option Elab.async false
set_option linter.all false
set_option maxRecDepth 100000
set_option maxHeartbeats 1000000
/-! Own layer 18: a word as long as the width before or behind a text. -/
namespace SL
open PySem PySem.Spec PyProof.Rows L2
theorem ns_pre {ns ms : List Int} {b : Nat} (h : b < ns.length) : nsOf (ns ++ ms) b = nsOf ns b := getD_pre h
theorem end_lines {ns : List Int} {m : Int} (hF : Fit m ns) (hm : 1 ≤ m) : linesF (nsOf (ns ++ [m])) (ns.length + 1) (m + 1) = [(ns.length, 0)] := by
  have hl : nsOf (ns ++ [m]) ns.length = m := getD_last rfl
  rw [linesF_yes (by rw [hl]; omega), hl, show m + 1 - (m + 1) = 0 by omega]
  match hn : ns.length with
  | 0 => rfl
  | e + 1 =>
    rw [linesF_no]
    rw [ns_pre (by omega)]
    have := (hF e (by omega)).1
    omega
theorem end_best {ns : List Int} {m : Int} (hF : Fit m ns) (hm : 1 ≤ m) : (cs (nsOf (ns ++ [m])) m (ns ++ [m]).length).getD (lB (ns ++ [m]) m) 0 = (cs (nsOf ns) m ns.length).getD ns.length 0 := by
  have hl : (ns ++ [m]).length = ns.length + 1 := by rw [List.length_append]; rfl
  have h1 : lB (ns ++ [m]) m = ns.length := by
    unfold lB
    rw [hl, end_lines hF hm]
    exact hd_one _
  rw [h1, hl, cs_pre (m := ns.length) (Nat.le_refl _) (Nat.le_succ _), cs_congr (ms := nsOf ns) fun b hb => ns_pre hb]
def sh (p : Nat × Int) : Nat × Int := (p.1 + 1, p.2)
theorem front_lines {ns : List Int} {m : Int} (hp : ∀ x ∈ ns, 1 ≤ x) : ∀ {e : Nat} {f : Int}, e ≤ ns.length → f ≤ m → linesF (nsOf (m :: ns)) (e + 1) f = (linesF (nsOf ns) e f).map sh
  | 0, f, _, hf => linesF_no (by show ¬ m < f; omega)
  | e + 1, f, he, hf => by
    have h1 : nsOf (m :: ns) (e + 1) = nsOf ns e := rfl
    have h0 : 1 ≤ nsOf ns e := by
      unfold nsOf
      rw [List.getD_eq_getElem?_getD, List.getElem?_eq_getElem (show e < ns.length by omega)]
      exact hp _ (List.getElem_mem (show e < ns.length by omega))
    by_cases hlt : nsOf ns e < f
    · rw [linesF_yes (by rw [h1]; exact hlt), linesF_yes hlt, h1, front_lines hp (by omega) (by omega)]
      rfl
    · rw [linesF_no (by rw [h1]; exact hlt), linesF_no hlt]
      rfl
theorem least_sh (g : Nat → Nat) (rs : List (Int × Nat)) : least (rs.map fun x => (x.1, g x.2)) = least rs := by
  match rs with
  | [] => rfl
  | r :: rs =>
    show (rs.map fun x => (x.1, g x.2)).foldl stepL r.1 = rs.foldl stepL r.1
    rw [List.foldl_map]
    rfl
theorem front_cs {ns : List Int} {m : Int} (hF : Fit m ns) : ∀ {e : Nat}, e ≤ ns.length → ∀ b, b ≤ e → (cs (nsOf (m :: ns)) m (e + 1)).getD (b + 1) 0 = (cs (nsOf ns) m e).getD b 0
  | 0, _, b, hb => by
    rw [show b = 0 by omega, cs_at (Nat.le_refl _)]
    have h1 : linesF (nsOf (m :: ns)) (0 + 1) (m + 1) = [(0, 0)] := by
      rw [linesF_yes (by show m < m + 1; omega)]
      show [(0, m + 1 - (m + 1))] = _
      rw [show m + 1 - (m + 1) = 0 by omega]
    rw [h1]
    rfl
  | e + 1, he, b, hb => by
    by_cases hlt : b ≤ e
    · rw [cs_pre (m := e + 1) (n := e + 1 + 1) (b := b + 1) (by omega) (by omega), front_cs hF (by omega) b hlt, cs_pre (m := e) (n := e + 1) hlt (by omega)]
    · rw [show b = e + 1 by omega, cs_at (Nat.le_refl _), cs_at (Nat.le_refl _)]
      have hb1 := (hF e (by omega))
      have h1 : linesF (nsOf (m :: ns)) (e + 1 + 1) (m + 1) = (linesF (nsOf ns) (e + 1) (m + 1)).map sh := by
        have h2 : nsOf (m :: ns) (e + 1) = nsOf ns e := rfl
        rw [linesF_yes (by rw [h2]; omega), linesF_yes (b := e) (ns := nsOf ns) (by omega), h2, front_lines (fit_pos hF) (by omega) (by omega)]
        rfl
      rw [h1]
      have h3 : rate (cs (nsOf (m :: ns)) m (e + 1)) ((linesF (nsOf ns) (e + 1) (m + 1)).map sh) = (rate (cs (nsOf ns) m e) (linesF (nsOf ns) (e + 1) (m + 1))).map fun x => (x.1, x.2 + 1) := by
        unfold rate
        rw [List.map_map, List.map_map]
        refine List.map_congr_left fun p hp => ?_
        have := (linesF_mem (hF.pos (e := e + 1) (by omega)) hp).1
        show ((cs (nsOf (m :: ns)) m (e + 1)).getD (p.1 + 1) 0 + p.2 ^ 2, p.1 + 1) = ((cs (nsOf ns) m e).getD p.1 0 + p.2 ^ 2, p.1 + 1)
        rw [front_cs hF (by omega) p.1 (by omega)]
      rw [h3]
      exact least_sh (fun b => b + 1) _
theorem front_closed {ns : List Int} {m : Int} (hF : Fit m ns) : (cs (nsOf (m :: ns)) m (m :: ns).length).getD (m :: ns).length 0 = (cs (nsOf ns) m ns.length).getD ns.length 0 := front_cs hF (Nat.le_refl _) _ (Nat.le_refl _)
theorem fit_end {ns : List Int} {m : Int} (hF : Fit m ns) (hm : 1 ≤ m) : Fit m (ns ++ [m]) := fit_of fun x hx => by
  rcases List.mem_append.mp hx with hx | hx
  · exact fit_all hF x hx
  · rw [List.mem_singleton.mp hx]
    exact ⟨hm, Int.le_refl _⟩
theorem fit_front {ns : List Int} {m : Int} (hF : Fit m ns) (hm : 1 ≤ m) : Fit m (m :: ns) := fit_of fun x hx => by
  rcases List.mem_cons.mp hx with rfl | hx
  · exact ⟨hm, Int.le_refl _⟩
  · exact fit_all hF x hx
def spTurn (K : PySem.W.Frag) : Sp := fun vs H Q _ => ∃ (l : Addr) (es : List Nat), vs = [.ref l] ∧ SqT K H l (es.map natV) ∧ es.length ≤ 1000 ∧ (∀ e ∈ es, e ≤ lastN es) ∧ ∀ H' r, Same H H' → SqT K H' r ((turnL es).map natV) → Q (.ref r) H'
/-- best_cost, the empty text too -/
def spBestC2 (K : PySem.W.Frag) : Sp := fun vs H Q _ => ∃ (m : Int) (t : Addr) (ns : List Int), vs = [.int m, .ref t] ∧ SqT K H t (ns.map V.int) ∧ Fit m ns ∧ 1 ≤ m ∧ m ≤ 1000000000 ∧ ns.length ≤ 1000 ∧
  ∀ H', Same H H' → Q (.int ((cs (nsOf ns) m ns.length).getD (lB ns m) 0)) H'
end SL

set_option Elab.async false
set_option linter.all false
set_option maxRecDepth 100000
set_option maxHeartbeats 4000000
/-! Own layer 19: errors of own classes held as values: made, told by class, their fields read. -/
namespace SL
open PySem PySem.Spec PyProof.Rows L2
/-- C(e, ..), C's own __init__ keeping sp, as a value -/
def tMkV (C : Addr) (sp : Sp) (ta : TA) : TE := fun σ H Q => ta σ H fun vs H1 => vs.length ≤ 1000 ∧ ∀ a, H1 a = none → sp (.ref a :: vs) (upd H1 a (exo a C none)) (fun v H2 => v = .non ∧ Q (.ref a) H2) (fun _ _ _ => False)
section
variable {X : Cx} {e : Expr} {es : List Expr} {ta : TA} {p pos : Pos}
theorem pe_oexV {CX : CXT} {x : Str} {C fI : Addr} {k : Nat} {fd : FuncData} {ps : List Str} {sp : Sp} (T : OexC X.K C) (iC : PySem.W.findIn X.K (.ref C) "__init__" = some (some (.ref fI))) (tI : PySem.W.typeIn X.K (.ref fI) = some (.type "function"))
    (F1 : FnOk X.prog X.w X.K X.mg X.base CX k fI fd ps sp) (hr : Room (k + 1) X.A) (hb : Binds X.K fd ps []) (hx : Passes CX X (fun _ _ _ => False)) (hg : Gl X x) (hm : X.mg x = some (.ref C)) (ha : PA X (e :: es) ta)
    (hdb : (x == ("__debug__" : Str)) = false := by decide) (he : starEach (e :: es) X.env = (false, eval e X.env) :: starEach es X.env := by rfl) (hpl : (backTo pos (starEach es X.env)).any (·.1) = false := by rfl) :
    PE X (.Call (.Name x p) (e :: es) [] pos) (tMkV C sp ta) := by
  refine ⟨fun pins s σ H Q I h => ?_⟩
  obtain ⟨nm, q, N, bs, bm, sn, sub, ab, col, dd, k0, k1, k2, k3, k5, hC, hbm⟩ := T.cls
  refine wpAny_Call_Name_kw (ld_glob I hg hm ?_ hdb)
  refine PySem.W.callWith_K (h₀ := X.base) I.ok.mod.kin T.kC (thn (ha.run pos pins s σ H _ I h) fun us s1 ⟨vs, H1, I1, r1, hz, q1⟩ => ⟨I1.kIn, ?_⟩) he hpl
  show wpAny _ _ (call (.ref C) us) _ _ _
  obtain ⟨hp, g, dr, tk, os⟩ := s1
  have hsz : hp.objs.size ≤ hp.objs.size + 1 := Nat.le_succ _
  have hn : H1 (hp.objs.size + 1) = none := I1.hok.fresh hsz
  have hq := q1 (hp.objs.size + 1) hn
  have kk : ∀ b o, hp.get? b = some o → ((hp.push (PySem.W.kdv_tup us)).push (PySem.HandSPX.excO C hp.objs.size)).get? b = some o := fun b o e => Heap.get?_push_of_some _ (Heap.get?_push_of_some _ e)
  have hget : ((hp.push (PySem.W.kdv_tup us)).push (PySem.HandSPX.excO C hp.objs.size)).get? (hp.objs.size + 1) = some (PySem.HandSPX.excO C hp.objs.size) := by heap_get
  have I2 : Inv X pins σ (upd H1 (hp.objs.size + 1) (exo (hp.objs.size + 1) C none)) ⟨(hp.push (PySem.W.kdv_tup us)).push (PySem.HandSPX.excO C hp.objs.size), g, dr, tk, os⟩ :=
    I1.laid (t' := tk) (a := hp.objs.size + 1) (o := exo (hp.objs.size + 1) C none) (h' := (hp.push (PySem.W.kdv_tup us)).push (PySem.HandSPX.excO C hp.objs.size)) kk hsz (exo_ok hget)
  have r2 : Vals (V.ref (hp.objs.size + 1) :: vs) (Value.ref (hp.objs.size + 1) :: us) := .cons rfl r1
  have hl : (Value.ref (hp.objs.size + 1) :: us ++ []).length = ps.length := by
    have e := r2.length
    rw [F1.len _ _ _ _ hq] at e
    rw [List.append_nil]
    exact e.symm
  have hus : us.length ≤ sizeLine := by
    rw [← Paired.length r1, sizeLine_eq]
    omega
  have hbd := hb _ (Value.ref (hp.objs.size + 1) :: us) I2.kIn hl
  rw [List.append_nil] at hbd
  refine wpAny_call (PySem.HandSPX.call_own F.excBase_ValueError (fun Y => PySem.HandSPX.refsVE_contains Y bm hbm) (I1.kIn _ _ hC) (PySem.W.looks_findIn I1.kIn iC) (fun self => PySem.W.bind_fn I1.kIn self tI) hus
    (codeAny_mono (F1.run _ X.stack _ _ ⟨Value.ref (hp.objs.size + 1) :: us, []⟩ (Value.ref (hp.objs.size + 1) :: us) _ _ (fun _ _ _ => False) (hr.make C us []) (I2.env0.make C us []) hbd r2 hq) fun r s' hq' => ?_))
  cases r with
  | error er => exact hx pins σ _ _ er s' I2 hq'
  | ok fl =>
    cases fl with
    | ret u =>
      obtain ⟨v, H2, os2, bare2, un2, hok2, rv, ev, q2⟩ := hq'
      subst ev
      obtain ⟨h2, g2, d2, t2, os'⟩ := s'
      have J : Inv X pins σ H2 ⟨h2, g2, d2, t2, os'⟩ := I2.call' (ch := []) os2 un2 hok2 bare2 (fun b z => absurd z (by simp))
      exact ⟨rv, .ref (hp.objs.size + 1), H2, J, rfl, q2⟩
    | next => exact False.elim hq'
    | brk => exact False.elim hq'
    | cont => exact False.elim hq'
end

/-! ### told by class -/
section
open PySem.W
variable {prog : Program} {w : World} {A : Around} {E : Value → Shared → Prop} {s : Shared} {K : Frag} {x D : Addr} {ox : Obj} {od : Option Obj}
theorem data_any {C : Addr} {name : Str} {a g : Value} (hc : (clsIn K C).isSome = true) (ha : findIn K (.ref C) name = some (some a)) (hg : specialIn K a "__get__" = some (some g)) (ht : takesIn K a = some true) : findObj K C od name = some (.bind g a) := by
  obtain ⟨cd, hc⟩ := Option.isSome_iff_exists.mp hc
  unfold findObj
  rw [hc, Option.bind_some, ha, Option.bind_some]
  simp [hg, ht]
theorem class_any {Q : Option Value → Shared → Prop} (C : ExcC K D) (X : K.In s.heap) (I : InstAt s.heap x ox D od) (h : Q (some (.ref D)) { s with toks := s.toks + 1 }) : wpAny (model prog w) A (getAttr? (.ref x) "__class__") Q E s := by
  have hf : findObj K D od "__class__" = some (.bind (.builtin "getset_descriptor.__get__") (.builtin "object.__class__")) := data_any (by obtain ⟨cd, hc, _⟩ := any_some C.hd; rw [hc]; rfl) C.ha C.hn C.ht
  obtain ⟨hp, g, d, t, os⟩ := s
  have L0 := I.type (M := model prog w)
  have L1 := looks_findIn (M := model prog w) X C.hg
  have L2 := looks_findIn (M := model prog w) X C.hk
  have L3 := looks_find (M := model prog w) X I hf
  have sub : Looks (model prog w) hp (isInstance (.ref x) (.type "BaseException")) true := L0.andThen (looks_subIn X C.hs)
  have hx0 : (false && onTheHeap (Value.builtin "BaseException.__getattribute__")) = false := rfl
  have hx2 : (Value.builtin "BaseException.__getattribute__" == Value.builtin "object.__getattribute__") = false := by decide +kernel
  have hx1 : (onTheHeap (Value.ref D) && Value.builtin "BaseException.__getattribute__" == Value.builtin "object.__getattribute__") = false := by rw [hx2]; rfl
  unfold getAttr? getAttrBy? getAttrBy
  refine wpAny_bind (wpAny_mkText (wpAny_bind (wpAny_attempt (wpAny_holding (wpAny_bind (L0.at (wpAny_bind (L1.at ?_))))))))
  show wpAny _ _ (if (onTheHeap (Value.ref D) && Value.builtin "BaseException.__getattribute__" == Value.builtin "object.__getattribute__") = true then _ else _) _ _ _
  rw [hx1, if_neg Bool.false_ne_true]
  unfold getAttrByItsOwn hookBefore
  refine wpAny_bind ?_
  rw [if_pos (show onTheHeap (Value.ref D) = true from rfl)]
  refine L2.at ?_
  refine wpAny_bind (wpAny_attempt (wpAny_holding ?_))
  unfold callGetattribute
  rw [hx0, if_neg Bool.false_ne_true]
  unfold boundAndCalled
  rw [PySem.F.excAttr_ValueError.ga.bind (.ref x)]
  refine wpAny_bind (wpAny_pure ?_)
  show wpAny _ _ (call (.builtin "BaseException.__getattribute__") [.ref x, .str "__class__" t]) _ _ _
  refine wpAny_call (codeAny_call_builtin PySem.F.excAttr_ValueError.ga.plain PySem.F.entry_bexc_ga ?_)
  refine @check_slot (model prog w) _ _ ⟨hp, g, d, t + 1, os⟩ "BaseException.__getattribute__" "BaseException" "__getattribute__" (.ref x) [.str "__class__" t] [] _ (by decide +kernel) (by decide +kernel) sub (PySem.F.args_bexc_ga (.ref x) (.str "__class__" t)) ?_
  unfold Builtin.«object.__getattribute__»
  refine wpAny_bind (wpAny_of_eq (a := ((Value.ref x : Value), [Value.str "__class__" t])) (by first | rfl | (simp only [slotArgs]; rfl)) ?_)
  refine wpAny_bind (wpAny_pure (wpAny_bind (L0.at (wpAny_bind (L3.at ?_)))))
  show wpAny _ _ (holding [Value.builtin "object.__class__"] (call (.builtin "getset_descriptor.__get__") [.builtin "object.__class__", .ref x, .ref D]) >>= ret) _ _ _
  refine wpAny_bind (wpAny_holding (wpAny_call (class_get (s := ⟨hp, g, d, t + 1, os⟩) (ox := ox) (od := od) X I C.hm ?_)))
  refine wpAny_pure ?_
  show wpAny _ _ (handedOut (.ref D)) _ _ _
  rw [handedOut_of (v := .ref D) rfl]
  first
    | exact wpAny_pure (wpAny_pure h)
    | exact wpAny_pure h
    | exact wpAny_pure (wpAny_bind (wpAny_pure (wpAny_pure h)))
theorem kit_any (C : ExcC K D) : KitX K (.ref x) (.ref D) (fun h => ∃ ox od, InstAt h x ox D od) where
  ty := fun _ _ _ I => let ⟨_, _, I⟩ := I; I.type
  it := fun _ _ X _ => by
    obtain ⟨cdD, hcD, _⟩ := any_some C.hd
    unfold clsIn at hcD
    split at hcD
    · rename_i c' d' cd' sl' ho
      intro A' Q' E' s' k q
      unfold isType loadHead
      exact wpAny_bind (wpAny_loadPart (k _ _ (X _ _ ho)) (wpAny_pure q))
    · cases hcD
  ne := fun h tp dd its n sl X htp => by
    obtain ⟨cdD, hcD, _⟩ := any_some C.hd
    refine Bool.eq_false_iff.mpr fun q => ?_
    have e : D = tp := Value.ref.inj (beq_iff_eq.mp q)
    subst e
    unfold clsIn at hcD
    split at hcD
    · rename_i c' d' cd' sl' ho
      have z := (X _ _ ho).symm.trans htp
      cases z
    · cases hcD
  ca := fun X I k => let ⟨_, _, I⟩ := I; class_any C X I k
end
/-- an error of the class C that is tracked: with its fields, or with none -/
def ErrAt (H : Hp) (a C : Addr) (fs : List (Str × V)) : Prop := (fs = [] ∧ H a = some (exo a C none)) ∨ ∃ dx, H a = some (exo a C (some dx)) ∧ H dx = some (exd dx fs)
theorem ErrAt.same {H H' : Hp} {a C : Addr} {fs : List (Str × V)} (h : ErrAt H a C fs) (k : Same H H') : ErrAt H' a C fs := by
  rcases h with ⟨e, h⟩ | ⟨dx, h1, h2⟩
  · exact .inl ⟨e, k _ _ h⟩
  · exact .inr ⟨dx, k _ _ h1, k _ _ h2⟩
theorem ErrAt.inst {X : Cx} {pins : List (Addr × Obj)} {σ : L2.St} {H : Hp} {s : Shared} {a C : Addr} {fs : List (Str × V)} (I : Inv X pins σ H s) (h : ErrAt H a C fs) : ∃ ox od, PySem.W.InstAt s.heap a ox C od := by
  rcases h with ⟨_, h⟩ | ⟨dx, h1, h2⟩
  · obtain ⟨t1, e⟩ := exo_at I.hok h
    exact ⟨_, none, e, rfl, rfl, trivial⟩
  · obtain ⟨t1, e⟩ := exo_at I.hok h1
    obtain ⟨mA, ⟨o, es, ep, ho, hr⟩, _⟩ := exd_at I.hok h2
    exact ⟨_, some o, e, rfl, rfl, ho⟩
section
variable {X : Cx}
def rIsX (K : PySem.W.Frag) : List V → Hp → VK → Prop := fun xs H Q => ∃ (a C : Addr) (fs : List (Str × V)) (c : V) (u : Value) (b : Bool), xs = [.ref a, c] ∧ ClsV c u ∧ ErrAt H a C fs ∧ ExcC K C ∧ PySem.W.kitOne K (.ref C) u = some b ∧ Q (.bl b) H
theorem call_isX : CallR X (.builtin "isinstance") (rIsX X.K) := by
  intro pins s σ H xs us Q I r h
  obtain ⟨a, C, fs, c, u, b, rfl, k, hE, hC, e, q⟩ := h
  obtain ⟨u1, u2, rfl, r1, r2⟩ := vals2 r
  have e2 := k.eq r2
  subst e2
  cases (show u1 = Value.ref a from r1)
  exact PySem.W.kia_one (kit_any hC) I.kIn (hE.inst I) e (fun z => nomatch z) fun tk => ⟨.bl b, H, I.tok tk, rfl, q⟩
end

/-! ### its fields -/
def tFldX (K : PySem.W.Frag) (f : Str) (te : TE) : TE := fun σ H Q => te σ H fun x H1 => ∃ (a C : Addr) (fs : List (Str × V)) (v : V), x = .ref a ∧ ErrAt H1 a C fs ∧ XfC K C ∧ PySem.W.findIn K (.ref C) f = some none ∧ fs.lookup f = some v ∧ Q v H1
theorem pe_fldX {X : Cx} {e : Expr} {te : TE} {pos : Pos} {f : Str} (he : PE X e te) (hb : attributeBase e f X.env (eval e X.env) = eval e X.env := by rfl) : PE X (.Attribute e f pos) (tFldX X.K f te) := by
  refine ⟨fun pins s σ H Q I h => ?_⟩
  refine attr_of hb (thn (he.run pins s σ H _ I h) fun u s1 hh => ?_)
  obtain ⟨x, H1, I1, rx, a, C, fs, v, ex, hE, T, hno, l, q⟩ := hh
  subst ex
  obtain rfl : u = Value.ref a := rx
  rcases hE with ⟨e0, _⟩ | ⟨dx, h1, h2⟩
  · rw [e0] at l
    cases l
  · obtain ⟨t1, ho⟩ := exo_at I1.hok h1
    obtain ⟨mA, hns, hr⟩ := exd_at I1.hok h2
    obtain ⟨od, hod, hl⟩ := lookIn_ns hns
    obtain ⟨u, hu, ru⟩ := RelO.some_of (v := v) (o := mA f) (by rw [← l]; exact hr f)
    have J : PySem.W.InstAt s1.heap a _ C (some od) := ⟨ho, rfl, rfl, hod⟩
    exact HandSPX.exc_get I1.kIn J T.ga T.gg T.exC (PySem.W.findObj_own T.hdC hno rfl (by rw [hl, hu])) (handed_of ru) ⟨v, H1, I1.tok _, ru, q⟩
end SL

set_option Elab.async false
set_option linter.all false
set_option maxRecDepth 100000
set_option maxHeartbeats 4000000
/-! Own layer 20: errors of own classes made by calls with keywords. -/
namespace PySem
namespace SLK
open PySem.HandSPX
open Builtin Builtin.ObjectAttr
/-! ### made by a call with keywords -/
section
variable {M : Model} {A : Around} {E : Value → Shared → Prop} {h : Heap} {g : Array GenState} {d : Drawn} {t : Nat} {os : OsState}
variable {nm q : Str} {C N : Addr} {bs bm bmB : List Value} {hdct : Bool} {sn : List Str} {sub : List Value} {ab : Bool} {col : Option Bool} {dd : Option Addr} {k0 k1 k2 k3 k5 : Option Value} {B newId initId : String} {kw : List (Str × Value)}
theorem check_new_kw (F : ExcBaseFacts B newId initId bmB) (hT : ∀ X : String, bm.contains (.type X) = bmB.contains (.type X)) {rest : List Value} {Q : Unit → Shared → Prop}
    (hC : h.get? C = some (excClassObj nm q C N bs bm hdct sn sub ab col dd k0 k1 k2 k3 k5 newId)) (hq : Q () ⟨h, g, d, t, os⟩) : wpAny M A (checkBuiltinCall newId ⟨.ref C :: rest, kw⟩) Q E ⟨h, g, d, t, os⟩ := by
  have hcont : (Value.ref C :: bm).contains (.type B) = true := by rw [List.contains_cons, hT, F.hasB, Bool.or_true]
  have hstar := F.noStar
  simp only [checkBuiltinCall, F.newKind, F.newSplit, F.newRow]
  repeat (first | refine wpAny_loadPart_at hC ?_ | (refine wpAny_isSubtype_exc hC ?_; rw [hcont]) | refine wpAny_staticBase_exc hC ?_ | refine wpAny_madeBy_exc hC ?_ | simp only [bne_self_eq_false, Bool.false_eq_true, if_false] | wp_step)
  exact hq
end
section
variable {prog : Program} {w : World} {A : Around} {E : Value → Shared → Prop} {R : Result → Shared → Prop} {h : Heap} {g : Array GenState} {d : Drawn} {t : Nat} {os : OsState}
variable {nm q : Str} {C N : Addr} {bs bm bmB : List Value} {hdct : Bool} {sn : List Str} {sub : List Value} {ab : Bool} {col : Option Bool} {dd : Option Addr} {k0 k1 k2 k3 k5 : Option Value} {B newId initId : String} {kw : List (Str × Value)}
theorem new_kw (F : ExcBaseFacts B newId initId bmB) (hT : ∀ X : String, bm.contains (.type X) = bmB.contains (.type X)) {rest : List Value}
    (hC : h.get? C = some (excClassObj nm q C N bs bm hdct sn sub ab col dd k0 k1 k2 k3 k5 newId))
    (hq : R (.ok (.ret (.ref (h.objs.size + 1)))) ⟨(h.push { cls := .type "tuple", data := .seq rest.toArray }).push
      { cls := .ref C, data := .fields #[.ref h.objs.size, .none, .none, .none, .bool false, .none] }, g, d, t, os⟩) (hrest : rest.length ≤ sizeLine) :
    codeAny (model prog w) A (.builtin newId ⟨.ref C :: rest, kw⟩) R ⟨h, g, d, t, os⟩ := by
  have hends := F.ends
  have hcB : (Value.ref C :: bm).contains (.type B) = true := by rw [List.contains_cons, hT, F.hasB, Bool.or_true]
  have hcA : (Value.ref C :: bm).contains (.type "AttributeError") = false := by rw [List.contains_cons, hT, F.noAttr]; rfl
  have hcN : (Value.ref C :: bm).contains (.type "NameError") = false := by rw [List.contains_cons, hT, F.noName]; rfl
  refine codeAny_builtinAt F.entry ?_
  unfold Builtin.«BaseException.__new__»
  refine wpAt_bind ?_
  show wpAt _ _ _ (stack >>= _) _ _ _
  refine wpAt_bind (wpAt_stack fun p below => wpAt_of_wpAny ?_)
  wp_walk
  refine wpAt_of_wpAny ?_
  rw [F.owner]
  repeat (first | with_reducible refine wpAny_madeHere_exc F.canon hC ?_ | with_reducible refine wpAny_loadPart_at hC ?_ | (with_reducible refine wpAny_isSubtype_exc hC ?_; first | rw [hcB] | rw [hcA] | rw [hcN]) | wp_step)
  show R _ _
  rw [Heap.size_push]
  exact hq
theorem check_type_kw {M : Model} {rest : List Value} {Q : Unit → Shared → Prop} (hC : h.get? C = some (excClassObj nm q C N bs bm hdct sn sub ab col dd k0 k1 k2 k3 k5 newId))
    (hq : Q () ⟨h, g, d, t, os⟩) : wpAny M A (checkBuiltinCall "type.__call__" ⟨.ref C :: rest, kw⟩) Q E ⟨h, g, d, t, os⟩ := by
  have f3 := tc_sub
  have hT : (⟨h, g, d, t, os⟩ : Shared).TypeIs (.ref C) "type" := ⟨_, hC, rfl⟩
  simp only [checkBuiltinCall, tc_kind, tc_split]
  repeat (any_goals (first | assumption | with_reducible refine wpAny_loadPart_at hC ?_ | with_reducible refine wpAny_onRaise ?_ | with_reducible refine wpAny_map ?_ | wp_step))
theorem type_call_kw (F : ExcBaseFacts B newId initId bmB) (hT : ∀ X : String, bm.contains (.type X) = bmB.contains (.type X)) {rest : List Value} {fI : Addr} {Q : Fin → Shared → Prop}
    (hC : h.get? C = some (excClassObj nm q C N bs bm hdct sn sub ab col dd k0 k1 k2 k3 k5 newId))
    (hi : W.Looks (model prog w) h (typeLookup (.ref C) "__init__") (some (.ref fI))) (hb : ∀ self, W.Looks (model prog w) h (bindSpecial (.ref fI) self) (.ref fI, [self])) (hrest : rest.length ≤ sizeLine)
    (hq : codeAny (model prog w) A (.call (.ref fI) ⟨.ref (h.objs.size + 1) :: rest, kw⟩)
      (fun r s' => match r with | .ok (.ret v) => v = .none ∧ Q (.done (.ret (.ref (h.objs.size + 1)))) s' | .ok _ => False | .error e => E e s')
      ⟨(h.push (W.kdv_tup rest)).push (excO C h.objs.size), g, d, t, os⟩) :
    wpAny (model prog w) A (Builtin.«type.__call__» ⟨.ref C :: rest, kw⟩) Q E ⟨h, g, d, t, os⟩ := by
  repeat (first | with_reducible refine wpAny_loadPart_at hC ?_ | with_reducible refine wpAny_madeBy_exc hC ?_ | wp_step)
  refine codeAny_call_builtin_code (Code.quiet_builtin _ F.quiet) (check_new_kw F hT hC ?_)
  refine new_kw F hT hC ?_ hrest
  show wpAny _ _ _ _ _ _
  have k : ∀ b o, h.get? b = some o → ((h.push (W.kdv_tup rest)).push (excO C h.objs.size)).get? b = some o := fun b o e => Heap.get?_push_of_some _ (Heap.get?_push_of_some _ e)
  have hC₁ := k _ _ hC
  have hget : ((h.push (W.kdv_tup rest)).push (excO C h.objs.size)).get? (h.objs.size + 1) = some (excO C h.objs.size) := by heap_get
  have hcC : (Value.ref C :: bm).contains (.ref C) = true := by simp
  have i1 := hi.keeps k
  have b1 := (hb (.ref (h.objs.size + 1))).keeps k
  unfold isInstance
  repeat (first | with_reducible refine wpAny_loadPart_at hget ?_ | (with_reducible refine wpAny_isSubtype_exc hC₁ ?_; rw [hcC]) | wp_step)
  show wpAny _ _ (typeLookup (.ref C) _) _ _ _
  refine i1.at ?_
  refine wpAny_holding (wpAny_bind (b1.at ?_))
  refine wpAny_bind (wpAny_call (codeAny_mono hq fun r s' z => ?_))
  rcases r with e | (v | _ | _ | _) <;> first | exact z | exact z.elim | skip
  obtain ⟨rfl, z⟩ := z
  first
    | exact wpAny_pure (wpAny_pure z)
    | (wp_walk; exact z)
theorem call_kw (F : ExcBaseFacts B newId initId bmB) (hT : ∀ X : String, bm.contains (.type X) = bmB.contains (.type X)) {rest : List Value} {fI : Addr}
    (hC : h.get? C = some (excClassObj nm q C N bs bm hdct sn sub ab col dd k0 k1 k2 k3 k5 newId))
    (hi : W.Looks (model prog w) h (typeLookup (.ref C) "__init__") (some (.ref fI))) (hb : ∀ self, W.Looks (model prog w) h (bindSpecial (.ref fI) self) (.ref fI, [self])) (hrest : rest.length ≤ sizeLine)
    (hq : codeAny (model prog w) (A.under (.builtin "type.__call__" ⟨.ref C :: rest, kw⟩)) (.call (.ref fI) ⟨.ref (h.objs.size + 1) :: rest, kw⟩) (W.InitBack (h.objs.size + 1) R)
      ⟨(h.push (W.kdv_tup rest)).push (excO C h.objs.size), g, d, t, os⟩) :
    codeAny (model prog w) A (.call (.ref C) ⟨rest, kw⟩) R ⟨h, g, d, t, os⟩ := by
  have f1 := tc_lookup
  have f2 := tc_bind (.ref C)
  have hTy : (⟨h, g, d, t, os⟩ : Shared).TypeIs (.ref C) "type" := ⟨_, hC, rfl⟩
  refine codeAny_of_tree ?_
  show wpAny _ _ (callAny (.ref C) _) _ _ _
  repeat (any_goals (first | assumption | with_reducible refine wpAny_loadPart_at hC ?_ | wp_step))
  refine ⟨rfl, ?_⟩
  refine codeAny_call_builtin_at (Code.quiet_builtin _ (by decide +kernel)) entry_typeCall (check_type_kw hC (type_call_kw F hT hC hi hb hrest ?_))
  refine codeAny_mono hq fun r s' z => ?_
  rcases r with e | (v | _ | _ | _) <;> exact z
end
end SLK
end PySem

set_option Elab.async false
set_option linter.all false
set_option maxRecDepth 100000
set_option maxHeartbeats 4000000
/-! Own layer 21: C(k = v) and C() of own error classes, as values. -/
namespace SL
open PySem PySem.Spec PyProof.Rows L2
/-- C(k = v, ..), keywords alone, C's own __init__ keeping sp -/
def tMkKV (C : Addr) (n : Nat) (sp : Sp) (g : List V → List V) (tk : TA) : TE := fun σ H Q => tk σ H fun zs H1 => zs.length = n ∧ ∀ a, H1 a = none → sp (.ref a :: g zs) (upd H1 a (exo a C none)) (fun v H2 => v = .non ∧ Q (.ref a) H2) (fun _ _ _ => False)
section
variable {X : Cx} {e : Expr} {es : List Expr} {ta tk : TA} {p pos : Pos} {kws : List Keyword}
theorem pe_oexKV {CX : CXT} {x : Str} {C fI : Addr} {k : Nat} {fd : FuncData} {ps ks : List Str} {sp : Sp} {g : {α : Type} → List α → List α} (T : OexC X.K C) (iC : PySem.W.findIn X.K (.ref C) "__init__" = some (some (.ref fI))) (tI : PySem.W.typeIn X.K (.ref fI) = some (.type "function"))
    (F1 : FnOk X.prog X.w X.K X.mg X.base CX k fI fd ps sp) (hr : Room (k + 1) X.A) (hb : ∀ (s : Shared) (u : Value) (ws : List Value), ws.length = ks.length → BindsTo s fd ⟨[u], ks.zip ws⟩ (ps.zip (u :: g ws))) (hx : Passes CX X (fun _ _ _ => False)) (hg : Gl X x) (hm : X.mg x = some (.ref C))
    (hgv : ∀ {zs : List V} {ws : List Value}, zs.length = ks.length → Vals zs ws → Vals (g zs) (g ws)) (hkw : PK X kws tk) (hall : (backToKw pos (keywordEach kws X.env)).all (·.1.isSome) = true := by rfl) (hks : (backToKw pos (keywordEach kws X.env)).filterMap (·.1) = ks := by rfl)
    (hdb : (x == ("__debug__" : Str)) = false := by decide) (hpl : ((backTo pos (starEach [] X.env)).any (·.1) || (backToKw pos (keywordEach kws X.env)).any (·.1.isNone)) = false := by rfl) :
    PE X (.Call (.Name x p) [] kws pos) (tMkKV C ks.length sp g tk) := by
  refine ⟨fun pins s σ H Q I h => ?_⟩
  obtain ⟨nm, q, N, bs, bm, sn, sub, ab, col, dd, k0, k1, k2, k3, k5, hC, hbm⟩ := T.cls
  refine wpAny_Call_Name_kw (ld_glob I hg hm ?_ hdb)
  refine PySem.W.callWith_KW0 (h₀ := X.base) I.ok.mod.kin T.kC hall (thn (hkw.run pos pins s σ H _ I h) fun ws s1 ⟨zs, H1, I1, r1, hn, q1⟩ => ⟨I1.kIn, ?_⟩) hpl
  rw [hks]
  show wpAny _ _ (call (.ref C) [] (ks.zip ws)) _ _ _
  obtain ⟨hp, gg, dr, tk', os⟩ := s1
  have hsz : hp.objs.size ≤ hp.objs.size + 1 := Nat.le_succ _
  have hnn : H1 (hp.objs.size + 1) = none := I1.hok.fresh hsz
  have hq := q1 (hp.objs.size + 1) hnn
  have kk : ∀ b o, hp.get? b = some o → ((hp.push (PySem.W.kdv_tup [])).push (PySem.HandSPX.excO C hp.objs.size)).get? b = some o := fun b o e => Heap.get?_push_of_some _ (Heap.get?_push_of_some _ e)
  have hget : ((hp.push (PySem.W.kdv_tup [])).push (PySem.HandSPX.excO C hp.objs.size)).get? (hp.objs.size + 1) = some (PySem.HandSPX.excO C hp.objs.size) := by heap_get
  have I2 : Inv X pins σ (upd H1 (hp.objs.size + 1) (exo (hp.objs.size + 1) C none)) ⟨(hp.push (PySem.W.kdv_tup [])).push (PySem.HandSPX.excO C hp.objs.size), gg, dr, tk', os⟩ :=
    I1.laid (t' := tk') (a := hp.objs.size + 1) (o := exo (hp.objs.size + 1) C none) (h' := (hp.push (PySem.W.kdv_tup [])).push (PySem.HandSPX.excO C hp.objs.size)) kk hsz (exo_ok hget)
  have r2 : Vals (V.ref (hp.objs.size + 1) :: g zs) (Value.ref (hp.objs.size + 1) :: g ws) := .cons rfl (hgv hn r1)
  have hbd := hb ⟨(hp.push (PySem.W.kdv_tup [])).push (PySem.HandSPX.excO C hp.objs.size), gg, dr, tk', os⟩ (Value.ref (hp.objs.size + 1)) ws (r1.length.symm.trans hn)
  refine wpAny_call (PySem.SLK.call_kw F.excBase_ValueError (fun Y => PySem.HandSPX.refsVE_contains Y bm hbm) (I1.kIn _ _ hC) (PySem.W.looks_findIn I1.kIn iC) (fun self => PySem.W.bind_fn I1.kIn self tI) (Nat.zero_le _)
    (codeAny_mono (F1.run _ X.stack _ _ ⟨[Value.ref (hp.objs.size + 1)], ks.zip ws⟩ (Value.ref (hp.objs.size + 1) :: g ws) _ _ (fun _ _ _ => False) (hr.make C [] (ks.zip ws)) (I2.env0.make C [] (ks.zip ws)) hbd r2 hq) fun r s' hq' => ?_))
  cases r with
  | error er => exact hx pins σ _ _ er s' I2 hq'
  | ok fl =>
    cases fl with
    | ret u =>
      obtain ⟨v, H2, os2, bare2, un2, hok2, rv, ev, q2⟩ := hq'
      subst ev
      obtain ⟨h2, g2, d2, t2, os'⟩ := s'
      have J : Inv X pins σ H2 ⟨h2, g2, d2, t2, os'⟩ := I2.call' (ch := []) os2 un2 hok2 bare2 (fun b z => absurd z (by simp))
      exact ⟨rv, .ref (hp.objs.size + 1), H2, J, rfl, q2⟩
    | next => exact False.elim hq'
    | brk => exact False.elim hq'
    | cont => exact False.elim hq'
/-- C(), a class without an own __init__ -/
theorem pe_oex0 {C : Addr} {bmB : List Value} {B newId initId : String} {x : Str} (F : ExcBaseFacts B newId initId bmB) (q : PySem.W.excIn X.K C bmB newId = true) (gC : X.mg x = some (.ref C)) (kC : PySem.W.keepIn X.K (.ref C) = true) (hg : Gl X x)
    (hdb : (x == ("__debug__" : Str)) = false := by decide) :
    PE X (.Call (.Name x p) [] [] pos) (fun σ H Q => ∀ a, H a = none → Q (.ref a) (upd H a (exo a C none))) := by
  refine ⟨fun pins s σ H Q I h => ?_⟩
  refine wpAny_Call_Name_kw (ld_glob I hg gC ?_ hdb)
  refine PySem.W.callWith_KW0 (h₀ := X.base) (kws := []) I.ok.mod.kin kC (by rfl) ?_ (by rfl)
  show wpAny _ _ (evalAll []) _ _ s
  refine wpAny_pure ⟨I.kIn, ?_⟩
  show wpAny _ _ (call (.ref C) []) _ _ _
  obtain ⟨bm, N, nm, qn, bs, hdct, sn, sub, ab, col, dd, k0, k1, k2, k3, k5, mN, hC, hN, hni, T⟩ := exc_obj I.kIn q
  refine wpAny_call_exc_subT F T hC hN hni (fun h' a hm => ?_) (Nat.zero_le _)
  have hn : H a = none := I.hok.gone hm.new
  obtain ⟨t, ht, _, _⟩ := hm.there
  exact ⟨.ref a, upd H a (exo a C none), I.laidN hm.keeps hm.new hn (exo_ok ht), rfl, h a hn⟩
end
end SL

set_option Elab.async false
set_option linter.all false
set_option maxRecDepth 100000
set_option maxHeartbeats 2000000
/-! Own layer 22: lists told to lie at no old place; what error classes promise. -/
namespace SL
open PySem PySem.Spec PyProof.Rows L2
section
variable {X : Cx}
def rCatS : R2 := fun x y H Q => ∃ l b xs zs, x = .ref l ∧ y = .ref b ∧ H l = some (.lst xs) ∧ H b = some (.lst zs) ∧ xs.length + zs.length ≤ sizeLine ∧ ∀ p, H p = none → p ≠ sysModules → Q (.ref p) (upd H p (.lst (xs ++ zs)))
theorem op_catS : OpR X (binaryOp .Add) rCatS := by
  intro pins s σ H x y v u Q I rx ry h
  obtain ⟨l, b, xs, zs, rfl, rfl, hH, hB, hz, q⟩ := h
  cases rx
  cases ry
  obtain ⟨z, its, n, r, hl, e⟩ := I.lstM hH
  obtain ⟨z2, its2, n2, r2, hl2, e2⟩ := I.lstM hB
  refine PySem.P.add_list e e2 ?_ (by rw [List.size_toArray, List.size_toArray]; omega)
  have ea : its.toArray ++ its2.toArray = (its ++ its2).toArray := by simp
  rw [ea]
  exact ⟨.ref _, _, I.lnew (t' := s.toks) (r.append r2) (by rw [List.length_append]; omega), rfl, q _ I.fresh (Nat.ne_of_gt I.big)⟩
/-- a list times an int that is known -/
def rRepS : R2 := fun x y H Q => ∃ l k xs, x = .ref l ∧ y = .int k ∧ H l = some (.lst xs) ∧ -(2 ^ 63) ≤ k ∧ k < 2 ^ 63 ∧ xs.length * k.toNat ≤ sizeLine ∧
  ∀ p, H p = none → p ≠ sysModules → Q (.ref p) (upd H p (.lst (List.replicate k.toNat xs).flatten))
theorem op_repS : OpR X (binaryOp .Mult) rRepS := by
  intro pins s σ H x y v u Q I rx ry h
  obtain ⟨l, k, xs, rfl, rfl, hH, h1, h2, hz, q⟩ := h
  cases rx
  obtain ⟨t, rfl⟩ := ry
  obtain ⟨z, its, n, r, hl, e⟩ := I.lstM hH
  have hlen : its.toArray.size * k.toNat ≤ sizeLine := by rw [List.size_toArray, ← hl]; exact hz
  have hcap : ¬ its.toArray.size * k.toNat > (2 ^ 63 - 1) / 8 := by
    have : (sizeLine : Nat) ≤ (2 ^ 63 - 1) / 8 := by decide
    omega
  have hfit : ¬ (!Builtin.List.listFitsIndex k) = true := by
    rw [fitsIndex_both h1 h2]
    exact Bool.false_ne_true
  have hlong : ¬ Builtin.List.listTooLong (its.toArray.size * k.toNat) = true := by
    rw [notLongL hlen]
    exact Bool.false_ne_true
  have hnew : List.foldl (fun x1 x2 => x1 ++ x2) #[] (List.replicate (if its.toArray.isEmpty = true then 0 else k.toNat) its.toArray) = (List.replicate k.toNat its).flatten.toArray := by
    have f0 : ∀ m : Nat, List.foldl (fun x1 x2 => x1 ++ x2) #[] (List.replicate m its.toArray) = (List.replicate m its).flatten.toArray := fun m => by
      have := foldl_rep its m []
      rw [List.nil_append] at this
      exact this
    rw [f0]
    cases its with
    | nil => simp
    | cons a r' => rw [if_neg (by simp)]
  refine wpAny_binaryOp_repeat_ref (T := "list") (U := "int") (by decide) ⟨_, e, rfl⟩ (fun s' => typeIs_int s' k t) noFill_list_mul F.fills_int_mul F.slot_int_rmul repeat_list F.slot_int_index.lookup
    (call_meets F.slot_int_rmul (typeIs_int s k t) F.entry_int_rmul (F.args_int_rmul_2 _ _) (int___rmul___int_list k t l its.toArray n)
      ⟨e, rfl, ⟨_, e, rfl⟩, call_meets F.slot_list_mul ⟨_, e, rfl⟩ F.entry_list_mul (F.args_list_mul_2 _ _) (AutoListH.list___mul___list_int_3 l its.toArray n k t hfit hcap hlong) ⟨e, ?_⟩⟩)
  rw [hnew]
  exact ⟨.ref _, _, I.lnew (t' := s.toks) (r.rep k.toNat) (by rw [PyProof.Rows.lm_len_rep_flat, Nat.mul_comm]; exact hz), rfl, q _ I.fresh (Nat.ne_of_gt I.big)⟩
end
section
variable {P : Program} {w : World} {K : PySem.W.Frag} {mg : Str → Option Value} {base : Heap}
/-- a def by its body, whatever the guards -/
theorem okF0 {x qual : Str} {st : Stmt} {f : Addr} {fd : FuncData} {N ps : List Str} {k : Nat} {sp : Sp} (F : Fun K x qual st f fd) (S : FnScope N ps (defScope st)) (len : ∀ vs H Q E, sp vs H Q E → vs.length = ps.length)
    (hbody : ∀ (cdv : Value) (A : Around) (outer : List Env) (s : Shared) (H : Hp) (vs : List V) (Q : VK) (E : XK), Room k (A.deeper (envOfC qual (defScope st) s.heap.objs.size f cdv)) → sp vs H Q E →
      ∃ t, PSs (cxOf CX0 P w K mg base N qual (defScope st) f cdv A outer s H E).nox (defBody st) t ∧ t { nx := fun _ H' => Q .non H', rt := Q } (start N vs) H) : FnOk P w K mg base CX0 (k + 1) f fd ps sp := by
  obtain ⟨oc, od, kV, doc, pm, an, cdv, ct, osl, rfl, lk, hcd⟩ := F.ex
  exact ⟨len, fun A o s H args us vs Q E hr e0 hb rv hsp => LamX.run_ofS lk hcd S hr e0 hb rv (len _ _ _ _ hsp) fun hr2 => let ⟨t, a, b⟩ := hbody cdv A o s H vs Q E hr2 hsp; ⟨t, a.nox, b⟩⟩
end
/-- __init__(self, y): self.f = y -/
def spInit (K : PySem.W.Frag) (C : Addr) (f : Str) : Sp := fun vs H Q _ => ∃ (a : Addr) (y : V), vs = [.ref a, y] ∧ H a = some (exo a C none) ∧ ∀ dx, H dx = none → dx ≠ a → Q .non (upd (upd H dx (exd dx [(f, y)])) a (exo a C (some dx)))
/-- an error class that keeps one field f -/
structure ErrI (P : Program) (w : World) (K : PySem.W.Frag) (mg : Str → Option Value) (base : Heap) (x f : Str) (C fI : Addr) (fd : FuncData) : Prop where
  m : mg x = some (.ref C)
  o : OexC K C
  e : ExcC K C
  n : PySem.W.findIn K (.ref C) f = some none
  iC : PySem.W.findIn K (.ref C) "__init__" = some (some (.ref fI))
  tI : PySem.W.typeIn K (.ref fI) = some (.type "function")
  F : FnOk P w K mg base CX0 1 fI fd ["self", f] (spInit K C f)
  b : ∀ ws : List Value, ws.length = 2 → ∀ s : Shared, BindsTo s fd ⟨ws, []⟩ ((["self", f] : List Str).zip ws)
  bk : ∀ (s : Shared) (u y : Value), BindsTo s fd ⟨[u], [(f, y)]⟩ ((["self", f] : List Str).zip [u, y])
theorem ExcC.xf {K : PySem.W.Frag} {C : Addr} (h : ExcC K C) : XfC K C := ⟨h.hg, h.hk, h.hs, h.hd⟩
/-- an error class with no __init__ of its own -/
structure ErrN (K : PySem.W.Frag) (mg : Str → Option Value) (x : Str) (C : Addr) : Prop where
  m : mg x = some (.ref C)
  kC : PySem.W.keepIn K (.ref C) = true
  q : PySem.W.excIn K C PySem.HandSPX.veTail "ValueError.__new__" = true
  e : ExcC K C
theorem Binds.all' {K : PySem.W.Frag} {fd : FuncData} {f : Str} (h : ∀ ws : List Value, ws.length = 2 → ∀ s : Shared, BindsTo s fd ⟨ws, []⟩ ((["self", f] : List Str).zip ws)) : Binds K fd ["self", f] [] := fun s us _ hl => by
  rw [List.append_nil] at hl ⊢
  exact h us hl s
section
variable {X : Cx} {p pos : Pos} {e : Expr} {te : TE}
/-- C(e) -/
theorem pe_err1 {x f : Str} {C fI : Addr} {fd : FuncData} (T : ErrI X.prog X.w X.K X.mg X.base x f C fI fd) (hr : Room 2 X.A) (hx : Passes CX0 X (fun _ _ _ => False)) (hg : Gl X x) (he : PE X e te)
    (hdb : (x == ("__debug__" : Str)) = false := by decide) (hs : starEach [e] X.env = (false, eval e X.env) :: starEach [] X.env := by rfl) (hpl : (backTo pos (starEach [] X.env)).any (·.1) = false := by rfl) :
    PE X (.Call (.Name x p) [e] [] pos) (tMkV C (spInit X.K C f) (tCons te tNil)) :=
  pe_oexV (CX := CX0) (ps := ["self", f]) (sp := spInit X.K C f) T.o T.iC T.tI T.F hr (Binds.all' T.b) hx hg T.m (pa_cons he pa_nil hs) hdb hs hpl
/-- C(f = e) -/
theorem pe_errK {x f : Str} {C fI : Addr} {fd : FuncData} {kpos : Pos} (T : ErrI X.prog X.w X.K X.mg X.base x f C fI fd) (hr : Room 2 X.A) (hx : Passes CX0 X (fun _ _ _ => False)) (hg : Gl X x) (he : PE X e te)
    (hdb : (x == ("__debug__" : Str)) = false := by decide) (hall : (backToKw pos (keywordEach [⟨some f, e, kpos⟩] X.env)).all (·.1.isSome) = true := by rfl) (hks : (backToKw pos (keywordEach [⟨some f, e, kpos⟩] X.env)).filterMap (·.1) = [f] := by rfl)
    (hpl : ((backTo pos (starEach [] X.env)).any (·.1) || (backToKw pos (keywordEach [⟨some f, e, kpos⟩] X.env)).any (·.1.isNone)) = false := by rfl) :
    PE X (.Call (.Name x p) [] [⟨some f, e, kpos⟩] pos) (tMkKV C 1 (spInit X.K C f) id (tCons te tNil)) :=
  pe_oexKV (CX := CX0) (ks := [f]) (ps := ["self", f]) (g := fun {_} l => l) (sp := spInit X.K C f) T.o T.iC T.tI T.F hr (fun s u ws hl => match ws, hl with | [y], _ => T.bk s u y) hx hg T.m (fun _ r => r) (pk_cons he pk_nil) hall hks hdb hpl
/-- C() -/
theorem pe_err0 {x : Str} {C : Addr} (T : ErrN X.K X.mg x C) (hg : Gl X x) (hdb : (x == ("__debug__" : Str)) = false := by decide) : PE X (.Call (.Name x p) [] [] pos) (fun σ H Q => ∀ a, H a = none → Q (.ref a) (upd H a (exo a C none))) :=
  pe_oex0 PySem.F.excBase_ValueError T.q T.m T.kC hg hdb
end
end SL

set_option Elab.async false
set_option linter.all false
set_option maxRecDepth 100000
set_option maxHeartbeats 2000000
/-! Own layer 23: lists of errors that keep one thing. -/
namespace SL
open PySem PySem.Spec PyProof.Rows L2
def fsOf (v : V) : Option Str → List (Str × V)
  | some f => [(f, v)]
  | none => []
inductive ErrL (H : Hp) (v : V) : List V → List (Addr × Option Str) → Prop
  | nil : ErrL H v [] []
  | cons {a C : Addr} {fo : Option Str} {xs : List V} {cs : List (Addr × Option Str)} : ErrAt H a C (fsOf v fo) → ErrL H v xs cs → ErrL H v (.ref a :: xs) ((C, fo) :: cs)
theorem ErrL.same {H H' : Hp} {v : V} {xs : List V} {cs : List (Addr × Option Str)} (h : ErrL H v xs cs) (k : Same H H') : ErrL H' v xs cs := by
  induction h with
  | nil => exact .nil
  | cons e _ ih => exact .cons (e.same k) ih
theorem ErrL.one {H : Hp} {v : V} {a C : Addr} {fo : Option Str} (e : ErrAt H a C (fsOf v fo)) : ErrL H v [.ref a] [(C, fo)] := .cons e .nil
theorem ErrL.append {H : Hp} {v : V} {xs ys : List V} {cs ds : List (Addr × Option Str)} (h : ErrL H v xs cs) (g : ErrL H v ys ds) : ErrL H v (xs ++ ys) (cs ++ ds) := by
  induction h with
  | nil => exact g
  | cons e _ ih => exact .cons e ih
theorem ErrL.more {H H' : Hp} {v : V} {xs ys : List V} {cs ds : List (Addr × Option Str)} (h : ErrL H v xs cs) (k : Same H H') (g : ErrL H' v ys ds) : ErrL H' v (xs ++ ys) (cs ++ ds) := (h.same k).append g
theorem ErrL.length {H : Hp} {v : V} {xs : List V} {cs : List (Addr × Option Str)} (h : ErrL H v xs cs) : xs.length = cs.length := by
  induction h with
  | nil => rfl
  | cons _ _ ih => simp [ih]
theorem ErrL.get {H : Hp} {v : V} {xs : List V} {cs : List (Addr × Option Str)} (h : ErrL H v xs cs) : ∀ {i : Nat} {C : Addr} {fo : Option Str}, cs[i]? = some (C, fo) → ∃ a, xs[i]? = some (.ref a) ∧ ErrAt H a C (fsOf v fo) := by
  induction h with
  | nil =>
    intro i C fo h
    simp at h
  | @cons a C fo xs cs e _ ih =>
    intro i C' fo' h
    cases i with
    | zero =>
      simp at h
      obtain ⟨rfl, rfl⟩ := h
      exact ⟨a, rfl, e⟩
    | succ i =>
      obtain ⟨b, hb, eb⟩ := ih (i := i) (by simpa using h)
      exact ⟨b, by simpa using hb, eb⟩
theorem ErrL.cls {H : Hp} {v : V} {xs : List V} {cs : List (Addr × Option Str)} (h : ErrL H v xs cs) (CS : List Addr) (hp : cs.map (·.1) = CS.take cs.length) {i : Nat} {x : V} (hx : xs[i]? = some x) : ∃ a fs, x = .ref a ∧ ErrAt H a (CS.getD i 0) fs ∧ i < CS.length := by
  have hi : i < cs.length := by
    rw [← h.length]
    exact (List.getElem?_eq_some_iff.mp hx).1
  have e1 : cs[i]? = some (cs[i].1, cs[i].2) := List.getElem?_eq_getElem hi
  obtain ⟨a, ha, e⟩ := h.get e1
  have e2 : CS[i]? = some cs[i].1 := by
    have z : (cs.map (·.1))[i]? = some cs[i].1 := by rw [List.getElem?_map, List.getElem?_eq_getElem hi]; rfl
    rw [hp, List.getElem?_take_of_lt hi] at z
    exact z
  have e3 : CS.getD i 0 = cs[i].1 := by rw [List.getD_eq_getElem?_getD, e2]; rfl
  rw [e3]
  exact ⟨a, _, Option.some.inj (hx.symm.trans ha), e, (List.getElem?_eq_some_iff.mp e2).1⟩
theorem ErrL.none {H : Hp} {v : V} {a C : Addr} (h : H a = none) : ErrL (upd H a (exo a C none)) v [.ref a] [(C, none)] := .one (.inl ⟨rfl, upd_same⟩)
theorem err_made {H : Hp} {a dx C : Addr} {f : Str} {v : V} (ha : H a = none) (hdx : upd H a (exo a C none) dx = none) (ne : dx ≠ a) :
    Same H (upd (upd (upd H a (exo a C none)) dx (exd dx [(f, v)])) a (exo a C (some dx))) ∧ ErrL (upd (upd (upd H a (exo a C none)) dx (exd dx [(f, v)])) a (exo a C (some dx))) v [.ref a] [(C, some f)] := by
  refine ⟨fun b o h => ?_, .one (.inr ⟨dx, upd_same, ?_⟩)⟩
  · have n1 : b ≠ a := ne_of_none h ha
    have h1 : upd H a (exo a C none) b = some o := by rw [upd_ne n1]; exact h
    rw [upd_ne n1, upd_ne (ne_of_none h1 hdx)]
    exact h1
  · rw [upd_ne ne]
    exact upd_same
section
variable {K : PySem.W.Frag} {C : Addr} {f : Str} {i : Nat} {v : V} {σ : L2.St} {H : Hp} {Q : VK}
theorem rd_mk (hv : σ[i]? = some (some v)) (q : ∀ a H2, Same H H2 → ErrL H2 v [.ref a] [(C, some f)] → Q (.ref a) H2) : tMkV C (spInit K C f) (tCons (tVar i) tNil) σ H Q :=
  ⟨v, hv, by show 1 ≤ 1000; decide, fun a ha => ⟨a, v, rfl, upd_same, fun dx hdx ne => ⟨rfl, let ⟨s, e⟩ := err_made ha hdx ne; q _ _ s e⟩⟩⟩
theorem rd_mkK (hv : σ[i]? = some (some v)) (q : ∀ a H2, Same H H2 → ErrL H2 v [.ref a] [(C, some f)] → Q (.ref a) H2) : tMkKV C 1 (spInit K C f) id (tCons (tVar i) tNil) σ H Q :=
  ⟨v, hv, rfl, fun a ha => ⟨a, v, rfl, upd_same, fun dx hdx ne => ⟨rfl, let ⟨s, e⟩ := err_made ha hdx ne; q _ _ s e⟩⟩⟩
end
theorem dp_bools {K : PySem.W.Frag} {H : Hp} : ∀ bs : List Bool, DpAll K H (bs.map V.bl) (bs.map PyData.bool)
  | [] => .nil
  | b :: bs => .cons (.bl b) (dp_bools bs)
/-- what an error of the j-th class answers when asked -/
def kindB (j : Nat) : List Bool := (List.range 10).map (fun o => decide (j = o)) ++ [true, true]
theorem kind_easy : ∀ j, j < 10 → (PyData.list ((kindB j).map PyData.bool)).showable = true ∧ (PyData.list ((kindB j).map PyData.bool)).depth ≤ 50 ∧ wt (PyData.list ((kindB j).map PyData.bool)) ≤ 1000000 := by decide +kernel
theorem dp_kind {K : PySem.W.Frag} {H : Hp} {a : Addr} {xs : List V} {j : Nat} (h : H a = some (.lst xs)) (e : xs = (kindB j).map V.bl) : Dp K H (.ref a) (.list ((kindB j).map PyData.bool)) := .lst (SqL.of (by rw [h, e])) (dp_bools _)
end SL

set_option Elab.async false
set_option linter.all false
set_option maxRecDepth 100000
set_option maxHeartbeats 2000000
/-! Own layer 24: the fields of errors read into lists. -/
namespace SL
open PySem PySem.Spec PyProof.Rows L2
theorem look1 (f : Str) (v : V) : (fsOf v (some f)).lookup f = some v := by simp [fsOf]
theorem seven {xs : List V} {a b c d e f g : V} (h0 : xs[0]? = some a) (h1 : xs[1]? = some b) (h2 : xs[2]? = some c) (h3 : xs[3]? = some d) (h4 : xs[4]? = some e) (h5 : xs[5]? = some f) (h6 : xs[6]? = some g) : ∃ r, xs = a :: b :: c :: d :: e :: f :: g :: r := by
  match xs, h0, h1, h2, h3, h4, h5, h6 with
  | _ :: _ :: _ :: _ :: _ :: _ :: _ :: r, h0, h1, h2, h3, h4, h5, h6 =>
    simp at h0 h1 h2 h3 h4 h5 h6
    subst h0 h1 h2 h3 h4 h5 h6
    exact ⟨r, rfl⟩
theorem cut15 {xs : List V} {a b c d e f g : V} {r : List V} (h : xs = a :: b :: c :: d :: e :: f :: g :: r) : cutV xs (some 1) (some 5) = [b, c, d, e] := by
  have hl : 5 ≤ xs.length := by rw [h]; simp
  rw [show (some (1 : Int)) = some ((1 : Nat) : Int) from rfl, show (some (5 : Int)) = some ((5 : Nat) : Int) from rfl, cut_mid xs (by omega) hl, h]
  rfl
theorem small_rep {d : PyData} (h : Small 300 12 d) (n : Nat) (hn : n ≤ 10) : Small 4000 13 (.list (List.replicate n d)) := by
  obtain ⟨a, b, c⟩ := showAll (b := 300) (k := 12) (ds := List.replicate n d) (fun x hx => by rw [List.eq_of_mem_replicate hx]; exact h)
  rw [List.length_replicate] at c
  refine ⟨?_, ?_, ?_⟩
  · simpa only [PyData.showable] using a
  · simp only [PyData.depth]
    omega
  · simp only [wz]
    have : n * (300 + 2) ≤ 10 * 302 := Nat.mul_le_mul hn (Nat.le_refl _)
    omega
end SL

set_option Elab.async false
set_option linter.all false
set_option maxRecDepth 100000
set_option maxHeartbeats 2000000
/-! Own layer 25: the facts of error classes put together. -/
namespace SL
open PySem PySem.Spec PyProof.Rows L2
theorem errI_mk {P : Program} {w : World} {K : PySem.W.Frag} {h : Heap} {mg : Str → Option Value} {base : Heap} {x f qual : Str} {C CL fI : Addr} {st : Stmt} (X : K.In h) (G : h.Ns mainGlobals mg)
    {nm q : Str} {N : Addr} {bs : List Value} {sn : List Str} {sub : List Value} {ab : Bool} {col : Option Bool} {dd : Option Addr} {m0 m1 m2 m3 m5 : Option Value} {od an : Option Addr} {sl : Array (Option Value)} {oc kV dc pm cd ct : Value}
    (aC : PySem.W.nsIn K mainGlobals x = some (some (.ref C)))
    (xL : K.lookup C = some (excClassObj nm q C N bs [.ref CL, .type "ValueError", .type "Exception", .type "BaseException", .type "object"] true sn sub ab col dd m0 m1 m2 m3 m5 "ValueError.__new__"))
    (sa : PySem.W.findIn K (.ref C) "__setattr__" = some (some (.builtin "object.__setattr__"))) (tyC : PySem.W.typeIn K (.ref C) = some (.type "type")) (kC : PySem.W.keepIn K (.ref C) = true)
    (hg : PySem.W.findIn K (.ref C) "__getattribute__" = some (some (.builtin "BaseException.__getattribute__"))) (hk : PySem.W.findIn K (.ref C) "__getattr__" = some none) (hs : PySem.W.subIn K (.ref C) (.type "BaseException") = some true)
    (hd : PySem.W.hasDictIn K C = true) (ha : PySem.W.findIn K (.ref C) "__class__" = some (some (.builtin "object.__class__"))) (hn : PySem.W.specialIn K (.builtin "object.__class__") "__get__" = some (some (.builtin "getset_descriptor.__get__")))
    (ht : PySem.W.takesIn K (.builtin "object.__class__") = some true) (hm : PySem.W.mroIn K C (.type "object") = some true)
    (n : PySem.W.findIn K (.ref C) f = some none) (iC : PySem.W.findIn K (.ref C) "__init__" = some (some (.ref fI))) (tI : PySem.W.typeIn K (.ref fI) = some (.type "function"))
    (l : K.lookup fI = some ⟨oc, od, .func (PySem.W.fnOf "__init__" qual (defArgs st) (defBody st) (defScope st) .none kV dc pm an cd ct), sl⟩) (c : PySem.W.codeIn K cd qual = true) (k : PySem.W.keepIn K (.ref fI) = true)
    (hF : ∀ {fd : FuncData}, Fun K "__init__" qual st fI fd → OexC K C → PySem.W.findIn K (.ref C) f = some none → FnOk P w K mg base CX0 1 fI fd ["self", f] (spInit K C f))
    (hb : ∀ (u y : Value), bindArgs (PySem.W.fnOf "__init__" qual (defArgs st) (defBody st) (defScope st) .none kV dc pm an cd ct) ⟨[u, y], []⟩ = pure ((["self", f] : List Str).zip [u, y]))
    (hbk : ∀ (u y : Value), bindArgs (PySem.W.fnOf "__init__" qual (defArgs st) (defBody st) (defScope st) .none kV dc pm an cd ct) ⟨[u], [(f, y)]⟩ = pure ((["self", f] : List Str).zip [u, y])) :
    ErrI P w K mg base x f C fI (PySem.W.fnOf "__init__" qual (defArgs st) (defBody st) (defScope st) .none kV dc pm an cd ct) := by
  have o : OexC K C := ⟨⟨nm, q, N, bs, _, sn, sub, ab, col, dd, m0, m1, m2, m3, m5, xL, rfl⟩, sa, hs, tyC, kC⟩
  exact ⟨PySem.W.mg_of X G aC, o, ⟨hg, hk, hs, hd, ha, hn, ht, hm⟩, n, iC, tI, hF (fun_mk l c k) o n, fun ws hl s => match ws, hl with | [u, y], _ => .of_eq (hb u y), fun s u y => .of_eq (hbk u y)⟩
theorem errN_mk {K : PySem.W.Frag} {h : Heap} {mg : Str → Option Value} {x : Str} {C : Addr} (X : K.In h) (G : h.Ns mainGlobals mg) (aC : PySem.W.nsIn K mainGlobals x = some (some (.ref C))) (kC : PySem.W.keepIn K (.ref C) = true)
    (q : PySem.W.excIn K C [.type "ValueError", .type "Exception", .type "BaseException", .type "object"] "ValueError.__new__" = true)
    (hg : PySem.W.findIn K (.ref C) "__getattribute__" = some (some (.builtin "BaseException.__getattribute__"))) (hk : PySem.W.findIn K (.ref C) "__getattr__" = some none) (hs : PySem.W.subIn K (.ref C) (.type "BaseException") = some true)
    (hd : PySem.W.hasDictIn K C = true) (ha : PySem.W.findIn K (.ref C) "__class__" = some (some (.builtin "object.__class__"))) (hn : PySem.W.specialIn K (.builtin "object.__class__") "__get__" = some (some (.builtin "getset_descriptor.__get__")))
    (ht : PySem.W.takesIn K (.builtin "object.__class__") = some true) (hm : PySem.W.mroIn K C (.type "object") = some true) : ErrN K mg x C :=
  ⟨PySem.W.mg_of X G aC, kC, q, ⟨hg, hk, hs, hd, ha, hn, ht, hm⟩⟩
theorem kit_self {K : PySem.W.Frag} {C : Addr} : PySem.W.kitOne K (.ref C) (.ref C) = some true := by
  unfold PySem.W.kitOne
  rw [if_pos (by simp)]
theorem kit_other {K : PySem.W.Frag} {C D : Addr} {b : Bool} (hc : PySem.W.isClsIn K D = true) (ht : PySem.W.typeIn K (.ref D) = some (.type "type")) (s : PySem.W.subIn K (.ref C) (.ref D) = some b) (h : b = false → PySem.W.subIn K (.ref C) (.ref C) = some true) : PySem.W.kitOne K (.ref C) (.ref D) = some b := by
  unfold PySem.W.kitOne
  have e2 : ((PySem.W.clsIn K D).isSome && PySem.W.typeIn K (.ref D) == some (.type "type")) = true := by
    have h2' : (PySem.W.clsIn K D).isSome = true := hc
    rw [h2', ht]
    rfl
  by_cases e : C = D
  · subst e
    rw [if_pos (by simp)]
    cases b with
    | true => rfl
    | false =>
      rw [h rfl] at s
      cases s
  · rw [if_neg (by simpa using e)]
    show (if ((PySem.W.clsIn K D).isSome && PySem.W.typeIn K (.ref D) == some (.type "type")) = true then PySem.W.subIn K (.ref C) (.ref D) else none) = some b
    rw [if_pos e2]
    exact s
theorem kit_type {K : PySem.W.Frag} {C : Addr} {T : String} {b : Bool} (hk : PySem.W.kitMeta T = true) (s : PySem.W.subIn K (.ref C) (.type T) = some b) : PySem.W.kitOne K (.ref C) (.type T) = some b := by
  unfold PySem.W.kitOne
  rw [if_neg (by simp)]
  show (if PySem.W.kitMeta T = true then PySem.W.subIn K (.ref C) (.type T) else none) = some b
  rw [if_pos hk]
  exact s
end SL

set_option Elab.async false
set_option linter.all false
set_option maxRecDepth 100000
set_option maxHeartbeats 2000000
/-! Own layer 26: methods and instances of own classes where no repr is under way; the table as an object. -/
namespace SL
open PySem PySem.Spec PyProof.Rows L2
/-- a method: where it stands, what it promises -/
structure MDef (P : Program) (w : World) (K : PySem.W.Frag) (mg : Str → Option Value) (base : Heap) (CX : CXT) (k : Nat) (C : Addr) (m qual : Str) (st : Stmt) (ps : List Str) (sp : Sp) : Prop where
  ex : ∃ f fd, Fun K m qual st f fd ∧ Meth K C m f ∧ FnG P w K mg base CX k f fd ps sp
/-- a class's __init__ -/
structure IDef (P : Program) (w : World) (K : PySem.W.Frag) (mg : Str → Option Value) (base : Heap) (CX : CXT) (k : Nat) (C : Addr) (qual : Str) (st : Stmt) (ps : List Str) (sp : Sp) : Prop where
  ex : ∃ f fd, Fun K "__init__" qual st f fd ∧ Mk K C f ∧ FnG P w K mg base CX k f fd ps sp
/-- where a method stands -/
def MStands (K : PySem.W.Frag) (C : Addr) (m qual : Str) (st : Stmt) : Prop := ∃ f fd, Fun K m qual st f fd ∧ Meth K C m f
def IStands (K : PySem.W.Frag) (C : Addr) (qual : Str) (st : Stmt) : Prop := ∃ f fd, Fun K "__init__" qual st f fd ∧ Mk K C f
theorem make_guards {A : Around} {C : Addr} {us : List Value} {kw : List (Str × Value)} : (A.under (.builtin "type.__call__" ⟨.ref C :: us, kw⟩)).guards = A.guards := by
  first | rfl | simp [Around.under, Code.guards, Code.isGuard, pushGuards] | (cases A; simp [Around.under, Code.guards, Code.isGuard, pushGuards])
def tMethG (C : Addr) (m : Str) (sp : Sp) (E : XK) (ta : TE) (t : TA) : TE := fun σ H Q => ta σ H fun x H1 => ∃ a dx fs, x = .ref a ∧ H1 a = some (.ins C dx fs) ∧ fs.lookup m = none ∧ t σ H1 fun vs H2 => sp (x :: vs) H2 Q E
def tMakeG (C : Addr) (sp : Sp) (E : XK) (t : TA) : TE := fun σ H Q => t σ H fun vs H1 => ∀ x dx, H1 x = none → H1 dx = none → dx ≠ x →
  sp (.ref x :: vs) (upd (upd H1 dx (.own x)) x (.ins C dx [])) (fun v H2 => v = .non ∧ Q (.ref x) H2) E
section
variable {X : Cx} {CX : CXT} {k : Nat} {C : Addr} {m qual x : Str} {st : Stmt} {ps : List Str} {sp : Sp} {E : XK} {p pos apos : Pos} {e o : Expr} {es : List Expr} {ta : TE} {t : TA}
/-- o.m(e, ..) -/
theorem pe_methG {pl : Sem Bool} (he : PE X o ta) (c : Cls X.K C) (D : MDef X.prog X.w X.K X.mg X.base CX k C m qual st ps sp) (hg : X.A.guards = some []) (hr : Room k X.A) (hx : Passes CX X E)
    (hbind : ∀ (kV doc pm : Value) (an : Option Addr) (cdv ct : Value) (us : List Value), us.length = ps.length → bindArgs (PySem.W.fnOf m qual (defArgs st) (defBody st) (defScope st) .none kV doc pm an cdv ct) ⟨us, []⟩ = pure (ps.zip us)) (ha : PA X (e :: es) t)
    (hst : starEach (e :: es) X.env = (false, eval e X.env) :: starEach es X.env := by rfl) (hpl : (backTo pos (starEach es X.env)).any (·.1) = false := by rfl)
    (ht : eval (.Call (.Attribute o m apos) (e :: es) [] pos) X.env = (do
      let ov ← eval o X.env
      standAt apos.atName
      let (f, first) ← holding [ov] (getMethod ov m pl)
      callWith pos f first (backTo pos (starEach (e :: es) X.env)) (backToKw pos (keywordEach [] X.env))) := by rfl) :
    PE X (.Call (.Attribute o m apos) (e :: es) [] pos) (tMethG C m sp E ta t) := by
  obtain ⟨f, fd, F, hm, G⟩ := D.ex
  refine ⟨fun pins s σ H Q I h => ?_⟩
  refine PySem.W.methodCall_KW (pl := pl) (thn (he.run pins s σ H _ I h) fun u s1 ⟨x, H1, I1, rx, a, dx, fs, ex, ea, l, q⟩ => ?_) ht
  subst ex
  obtain rfl : u = Value.ref a := rx
  refine getmeth_ok I1 ea c hm l ?_
  refine PySem.W.callWith_K (first := [.ref a]) (h₀ := X.base) I.ok.mod.kin hm.kp (thn (ha.run pos pins s1 σ H1 _ I1 q) fun us s2 ⟨vs, H2, I2, r, q2⟩ => ⟨I2.kIn, ?_⟩) hst hpl
  have r2 : Vals (V.ref a :: vs) (Value.ref a :: us) := .cons rfl r
  have hl : (Value.ref a :: us).length = ps.length := r2.length.symm.trans (G.len _ _ _ _ q2)
  obtain ⟨oc, od, kV, doc, pm, an, cdv, ct, osl, rfl, lk, hcd⟩ := F.ex
  exact run_fnG (args := ⟨Value.ref a :: us, []⟩) G hg hr hx (.of_eq (hbind kV doc pm an cdv ct _ hl)) I2 r2 q2
/-- C(e, ..) -/
theorem pe_makeG (D : IDef X.prog X.w X.K X.mg X.base CX k C qual st ps sp) (hg0 : X.A.guards = some []) (hr : Room (k + 1) X.A) (hg : Gl X x) (hm : X.mg x = some (.ref C)) (hx : Passes CX X E)
    (hbind : ∀ (kV doc pm : Value) (an : Option Addr) (cdv ct : Value) (us : List Value), us.length = ps.length → bindArgs (PySem.W.fnOf "__init__" qual (defArgs st) (defBody st) (defScope st) .none kV doc pm an cdv ct) ⟨us, []⟩ = pure (ps.zip us))
    (ha : PA X (e :: es) t) (hdb : (x == ("__debug__" : Str)) = false := by decide) (he : starEach (e :: es) X.env = (false, eval e X.env) :: starEach es X.env := by rfl) (hpl : (backTo pos (starEach es X.env)).any (·.1) = false := by rfl) :
    PE X (.Call (.Name x p) (e :: es) [] pos) (tMakeG C sp E t) := by
  obtain ⟨f, fd, F0, M, G⟩ := D.ex
  refine ⟨fun pins s σ H Q I h => ?_⟩
  refine wpAny_Call_Name_kw (ld_glob I hg hm ?_ hdb)
  refine PySem.W.callWith_K (h₀ := X.base) I.ok.mod.kin M.kp (thn (ha.run pos pins s σ H _ I h) fun us s1 ⟨vs, H1, I1, r, q⟩ => ⟨I1.kIn, ?_⟩) he hpl
  show wpAny _ _ (call (.ref C) us) _ _ _
  have hq := q (s1.heap.objs.size + 1) s1.heap.objs.size (I1.hok.fresh (Nat.le_succ _)) (I1.hok.fresh (Nat.le_refl _)) (Nat.ne_of_lt (Nat.lt_succ_self _))
  have I2 := Inv.made (C := C) I1
  have r2 : Vals (V.ref (s1.heap.objs.size + 1) :: vs) (Value.ref (s1.heap.objs.size + 1) :: us) := .cons rfl r
  have hl : (Value.ref (s1.heap.objs.size + 1) :: us).length = ps.length := r2.length.symm.trans (G.len _ _ _ _ hq)
  obtain ⟨oc, od, kV, doc, pm, an, cdv, ct, osl, rfl, lk, hcd⟩ := F0.ex
  refine wpAny_call (make_map (f := f) I1.kIn M.makes M.init (beq_iff_eq.mp M.fn) (codeAny_mono (G.run _ X.stack _ _ ⟨Value.ref (s1.heap.objs.size + 1) :: us, []⟩ (Value.ref (s1.heap.objs.size + 1) :: us) _ _ E (by rw [make_guards]; exact hg0) (hr.make C us [])
    (I2.env0.make C us []) (.of_eq (hbind kV doc pm an cdv ct _ hl)) r2 hq) fun r s' hq' => ?_))
  cases r with
  | error e => exact hx pins σ _ _ e s' I2 hq'
  | ok fl =>
    cases fl with
    | ret u =>
      obtain ⟨v, H', I3, rv, ev, q3⟩ := I2.after hq'
      subst ev
      exact ⟨rv, ⟨V.ref (s1.heap.objs.size + 1), H', I3, rfl, q3⟩⟩
    | next => exact False.elim hq'
    | brk => exact False.elim hq'
    | cont => exact False.elim hq'
end
section
variable {P : Program} {w : World} {K : PySem.W.Frag} {mg : Str → Option Value} {base : Heap}
theorem mstands_mk {C f : Addr} {m qual : Str} {st : Stmt} {od an : Option Addr} {sl : Array (Option Value)} {oc kV dc pm cd ct : Value} (a : PySem.W.findIn K (.ref C) m = some (some (.ref f))) (i : PySem.W.isFn K (.ref f) = true)
    (l : K.lookup f = some ⟨oc, od, .func (PySem.W.fnOf m qual (defArgs st) (defBody st) (defScope st) .none kV dc pm an cd ct), sl⟩) (c : PySem.W.codeIn K cd qual = true) (k : PySem.W.keepIn K (.ref f) = true) : MStands K C m qual st := ⟨f, _, fun_mk l c k, ⟨a, i, k⟩⟩
theorem istands_mk {C f : Addr} {qual : Str} {st : Stmt} {od an : Option Addr} {sl : Array (Option Value)} {oc kV dc pm cd ct : Value} (mk : PySem.W.makesIn K C = true) (kc : PySem.W.keepIn K (.ref C) = true) (a : PySem.W.findIn K (.ref C) "__init__" = some (some (.ref f))) (i : PySem.W.isFn K (.ref f) = true)
    (l : K.lookup f = some ⟨oc, od, .func (PySem.W.fnOf "__init__" qual (defArgs st) (defBody st) (defScope st) .none kV dc pm an cd ct), sl⟩) (c : PySem.W.codeIn K cd qual = true) (k : PySem.W.keepIn K (.ref f) = true) : IStands K C qual st := ⟨f, _, fun_mk l c k, ⟨mk, a, i, kc⟩⟩
end
/-! ### the table -/
structure TabC (K : PySem.W.Frag) (mg : Str → Option Value) (C : Addr) : Prop where
  m : mg "Table" = some (.ref C)
  cl : Cls K C
  nL : NoAttr K C "line_width"
  nW : NoAttr K C "words"
  nC : NoAttr K C "costs"
  nB : NoAttr K C "begins"
def tf (m : Int) (lw lc lb : Addr) : List (Str × V) := [("line_width", .int m), ("words", .ref lw), ("costs", .ref lc), ("begins", .ref lb)]
theorem tf_put1 (m : Int) : putF "line_width" (.int m) [] = [(("line_width" : Str), V.int m)] := rfl
theorem tf_put2 (m : Int) (lw : Addr) : putF "words" (.ref lw) [(("line_width" : Str), V.int m)] = [(("line_width" : Str), V.int m), ("words", .ref lw)] := by
  show (if ("line_width" : Str) = "words" then _ else _) = _
  rw [if_neg (by decide +kernel)]
  rfl
theorem tf_put3 (m : Int) (lw lc : Addr) : putF "costs" (.ref lc) [(("line_width" : Str), V.int m), ("words", .ref lw)] = [(("line_width" : Str), V.int m), ("words", .ref lw), ("costs", .ref lc)] := by
  show (if ("line_width" : Str) = "costs" then _ else _ :: (if ("words" : Str) = "costs" then _ else _)) = _
  rw [if_neg (by decide +kernel), if_neg (by decide +kernel)]
  rfl
theorem tf_put4 (m : Int) (lw lc lb : Addr) : putF "begins" (.ref lb) [(("line_width" : Str), V.int m), ("words", .ref lw), ("costs", .ref lc)] = tf m lw lc lb := by
  show (if ("line_width" : Str) = "begins" then _ else _ :: (if ("words" : Str) = "begins" then _ else _ :: (if ("costs" : Str) = "begins" then _ else _))) = _
  rw [if_neg (by decide +kernel), if_neg (by decide +kernel), if_neg (by decide +kernel)]
  rfl
theorem lk_hit (f : Str) (v : V) (fs : List (Str × V)) : ((f, v) :: fs).lookup f = some v := by simp [List.lookup]
theorem lk_miss {f g : Str} (v : V) (fs : List (Str × V)) (h : ¬ f = g) : ((g, v) :: fs).lookup f = fs.lookup f := by
  have : (f == g) = false := by simpa using h
  simp [List.lookup, this]
theorem tf_L (m : Int) (lw lc lb : Addr) : (tf m lw lc lb).lookup ("line_width" : Str) = some (.int m) := lk_hit _ _ _
theorem tf_W (m : Int) (lw lc lb : Addr) : (tf m lw lc lb).lookup ("words" : Str) = some (.ref lw) := ((lk_miss (f := "words") (g := "line_width") _ _ (by decide +kernel)).trans (lk_hit _ _ _))
theorem tf_C (m : Int) (lw lc lb : Addr) : (tf m lw lc lb).lookup ("costs" : Str) = some (.ref lc) := ((lk_miss (f := "costs") (g := "line_width") _ _ (by decide +kernel)).trans ((lk_miss (f := "costs") (g := "words") _ _ (by decide +kernel)).trans (lk_hit _ _ _)))
theorem tf_B (m : Int) (lw lc lb : Addr) : (tf m lw lc lb).lookup ("begins" : Str) = some (.ref lb) := ((lk_miss (f := "begins") (g := "line_width") _ _ (by decide +kernel)).trans ((lk_miss (f := "begins") (g := "words") _ _ (by decide +kernel)).trans ((lk_miss (f := "begins") (g := "costs") _ _ (by decide +kernel)).trans (lk_hit _ _ _))))
theorem tf_no (m : Int) (lw lc lb : Addr) {f : Str} (h1 : ¬ f = "line_width") (h2 : ¬ f = "words") (h3 : ¬ f = "costs") (h4 : ¬ f = "begins") : (tf m lw lc lb).lookup f = none :=
  (lk_miss _ _ h1).trans ((lk_miss _ _ h2).trans ((lk_miss _ _ h3).trans ((lk_miss _ _ h4).trans rfl)))
theorem tf_grow (m : Int) (lw lc lb : Addr) : (tf m lw lc lb).lookup ("grow" : Str) = none := tf_no m lw lc lb (f := "grow") (by decide +kernel) (by decide +kernel) (by decide +kernel) (by decide +kernel)
/-- the lists of a table of the text ns -/
structure TabL (H : Hp) (lw lc lb : Addr) (rs : List V) (m : Int) (ns : List Int) : Prop where
  w : H lw = some (.lst (ns.map V.int))
  c : H lc = some (.lst ((cs (nsOf ns) m ns.length).map V.int))
  b : H lb = some (.lst rs)
  all : AllAt (fun a bs => H a = some (.lst (bs.map natV)) ∧ a ≠ lw ∧ a ≠ lc ∧ a ≠ lb) rs (begs (nsOf ns) m ns.length)
  wc : lw ≠ lc
  wb : lw ≠ lb
  cb : lc ≠ lb
/-- behind H0, all of which is kept, a table of ns stands at p -/
def TabAt (C : Addr) (H0 H : Hp) (p : Addr) (m : Int) (ns : List Int) : Prop :=
  Same H0 H ∧ ∃ (dx lw lc lb : Addr) (rs : List V), H0 lw = none ∧ H0 lc = none ∧ H0 lb = none ∧ H p = some (.ins C dx (tf m lw lc lb)) ∧ TabL H lw lc lb rs m ns
theorem TabL.same {H H' : Hp} {lw lc lb : Addr} {rs : List V} {m : Int} {ns : List Int} (h : TabL H lw lc lb rs m ns) (k : Same H H') : TabL H' lw lc lb rs m ns :=
  ⟨k _ _ h.w, k _ _ h.c, k _ _ h.b, h.all.mono fun a p q => ⟨k _ _ q.1, q.2⟩, h.wc, h.wb, h.cb⟩
theorem TabAt.more {C : Addr} {H0 H H' : Hp} {p : Addr} {m : Int} {ns : List Int} (h : TabAt C H0 H p m ns) (k : Same H H') : TabAt C H0 H' p m ns := by
  obtain ⟨s, dx, lw, lc, lb, rs, a, b, c, d, e⟩ := h
  exact ⟨same_tr s k, dx, lw, lc, lb, rs, a, b, c, k _ _ d, e.same k⟩
def spTabI (C : Addr) : Sp := fun vs H Q _ => ∃ (p dx : Addr) (m : Int), vs = [.ref p, .int m] ∧ H p = some (.ins C dx []) ∧ ∀ H' : Hp, (∀ b o, b ≠ p → H b = some o → H' b = some o) → (∃ (lw lc lb : Addr) (rs : List V), H lw = none ∧ H lc = none ∧ H lb = none ∧ H' p = some (.ins C dx (tf m lw lc lb)) ∧ TabL H' lw lc lb rs m []) → Q .non H'
def spGrow (C : Addr) : Sp := fun vs H Q _ => ∃ (H0 : Hp) (p : Addr) (m x : Int) (ns : List Int), vs = [.ref p, .int x] ∧ TabAt C H0 H p m ns ∧ Fit m (ns ++ [x]) ∧ 1 ≤ m ∧ m ≤ 1000000000 ∧ ns.length < 2000 ∧ ∀ H' : Hp, TabAt C H0 H' p m (ns ++ [x]) → Q .non H'
def spTableOf (K : PySem.W.Frag) (C : Addr) : Sp := fun vs H Q _ => ∃ (m : Int) (t : Addr) (ns : List Int), vs = [.int m, .ref t] ∧ SqT K H t (ns.map V.int) ∧ Fit m ns ∧ 1 ≤ m ∧ m ≤ 1000000000 ∧ ns.length ≤ 2000 ∧ ∀ H' p, TabAt C H H' p m ns → Q (.ref p) H'
def spLinesW (K : PySem.W.Frag) : Sp := fun vs H Q _ => ∃ (m : Int) (t : Addr) (ns : List Int), vs = [.int m, .ref t] ∧ H t = some (.lst (ns.map V.int)) ∧ ns.length ≤ 2000 ∧
  ∀ H' l rs, Same H H' → H l = none → H' l = some (.lst rs) → AllAt (LnAt H') rs (linesF (nsOf ns) ns.length (m + 1)) → Q (.ref l) H'
def spCheap2 : Sp := fun vs H Q _ => ∃ (l : Addr) (rs : List V) (ps : List (Int × Nat)), vs = [.ref l] ∧ H l = some (.lst rs) ∧ AllAt (RtAt H) rs ps ∧ ps ≠ [] ∧ ps.length ≤ 2000 ∧
  ∀ H' t c, Same H H' → H' t = some (.tup [.int (least ps), .ref c]) → H c = none → H' c = some (.lst ((cheap ps).map fun b : Nat => V.int (b : Int))) → Q (.ref t) H'
def spLastT (C : Addr) : Sp := fun vs H Q _ => ∃ (H0 : Hp) (p : Addr) (m : Int) (ns : List Int), vs = [.ref p] ∧ TabAt C H0 H p m ns ∧ Fit m ns ∧ 1 ≤ m ∧ m ≤ 1000000000 ∧ ns.length ≤ 2000 ∧ 0 < ns.length ∧
  ∀ H' l, Same H H' → H l = none → H' l = some (.lst ((lastB (nsOf ns) m ns.length).map fun b : Nat => V.int (b : Int))) → Q (.ref l) H'
def spEndsT (K : PySem.W.Frag) (C : Addr) : Sp := fun vs H Q _ => ∃ (H0 : Hp) (p : Addr) (m : Int) (ns : List Int) (e b : Nat), vs = [.ref p, natV e, natV b] ∧ TabAt C H0 H p m ns ∧ Fit m ns ∧ e ≤ ns.length ∧ ns.length ≤ 2000 ∧
  ∀ H' t es, Same H H' → SqT K H' t ((es.filter fun x => decide (b < x)).map natV) → Pth (fB (nsOf ns) m) e es → Q (.ref t) H'
theorem Pth.filter0 {f : Nat → Nat} {e : Nat} {es : List Nat} (h : Pth f e es) : (es.filter fun x => decide (0 < x)) = es := by
  induction h with
  | z => rfl
  | s h0 _ ih => rw [List.filter_append, ih, List.filter_cons_of_pos (by simpa using h0)]; rfl
theorem Pth.mem_le {f : Nat → Nat} {e : Nat} {es : List Nat} (h : Pth f e es) : (∀ k, 1 ≤ k → k ≤ e → f k < k) → ∀ x ∈ es, x ≤ e := by
  induction h with
  | z => intro _ x hx; cases hx
  | @s e es h0 _ ih =>
    intro hf x hx
    have h1 := hf e h0 (Nat.le_refl _)
    rcases List.mem_append.mp hx with hx | hx
    · have := ih (fun k a b => hf k a (by omega)) x hx
      omega
    · simp at hx; omega
def spBestE (K : PySem.W.Frag) (C : Addr) : Sp := fun vs H Q _ => ∃ (H0 : Hp) (p : Addr) (m : Int) (ns : List Int), vs = [.ref p] ∧ TabAt C H0 H p m ns ∧ Fit m ns ∧ 1 ≤ m ∧ m ≤ 1000000000 ∧ ns.length ≤ 2000 ∧
  ∀ H' l es, Same H H' → SqT K H' l (es.map natV) → (ns = [] → es = []) → (0 < ns.length → ∃ es0, es = es0 ++ [ns.length] ∧ Pth (fB (nsOf ns) m) (lB ns m) es0) → Q (.ref l) H'
theorem begs_congr {ns ms : Nat → Int} {w : Int} : ∀ {e : Nat}, (∀ b < e, ns b = ms b) → begs ns w e = begs ms w e
  | 0, _ => rfl
  | e + 1, h => by
    unfold begs
    rw [begs_congr (e := e) fun c hc => h c (by omega), cs_congr (e := e) fun c hc => h c (by omega), linesF_congr h]
/-! ### defs with defaults -/
/-- a def with the defaults dvs -/
structure DDef (P : Program) (w : World) (K : PySem.W.Frag) (mg : Str → Option Value) (base : Heap) (CX : CXT) (k : Nat) (x : Str) (st : Stmt) (ps : List Str) (dvs : List V) (sp : Sp) : Prop where
  ex : ∃ f fd, FunD K x x (defArgs st) (defBody st) (defScope st) dvs [] f fd ∧ mg x = some (.ref f) ∧ FnG P w K mg base CX k f fd ps sp
/-- where it stands -/
def DStands (K : PySem.W.Frag) (mg : Str → Option Value) (x : Str) (st : Stmt) (dvs : List V) : Prop := ∃ f fd, FunD K x x (defArgs st) (defBody st) (defScope st) dvs [] f fd ∧ mg x = some (.ref f)
theorem dstands_mk {K : PySem.W.Frag} {mg : Str → Option Value} {h : Heap} {x : Str} {st : Stmt} {dvs : List V} {its : List Value} {n : Nat} {f T : Addr} {oc oc2 : Value} {od an od2 : Option Addr} {osl osl2 : Array (Option Value)} {kV doc pm cdv ct : Value} (X : K.In h) (G : h.Ns mainGlobals mg)
    (a : PySem.W.nsIn K mainGlobals x = some (some (.ref f))) (l : K.lookup f = some ⟨oc, od, .func (PySem.W.fnOf x x (defArgs st) (defBody st) (defScope st) (.ref T) kV doc pm an cdv ct), osl⟩) (c : PySem.W.codeIn K cdv x = true) (k : PySem.W.keepIn K (.ref f) = true)
    (t : K.lookup T = some ⟨oc2, od2, .seq its.toArray n, osl2⟩) (hd : dvs ≠ []) (hv : Vals dvs its) : DStands K mg x st dvs :=
  ⟨f, _, ⟨⟨oc, od, .ref T, kV, doc, pm, an, cdv, ct, osl, rfl, l, c, .inr ⟨hd, T, _, its, n, rfl, t, rfl, hv⟩, .inl rfl⟩, k⟩, PySem.W.mg_of X G a⟩
section
variable {P : Program} {w : World} {K : PySem.W.Frag} {mg : Str → Option Value} {base : Heap} {CX : CXT}
theorem okGD {x qual : Str} {st : Stmt} {f : Addr} {fd : FuncData} {N ps : List Str} {dvs : List V} {k : Nat} {sp : Sp} (F : FunD K x qual (defArgs st) (defBody st) (defScope st) dvs [] f fd) (S : FnScope N ps (defScope st)) (len : ∀ vs H Q E, sp vs H Q E → vs.length = ps.length)
    (hbody : ∀ (cdv : Value) (A : Around) (outer : List Env) (s : Shared) (H : Hp) (vs : List V) (Q : VK) (E : XK), A.guards = some [] → Room k (A.deeper (envOfC qual (defScope st) s.heap.objs.size f cdv)) → sp vs H Q E →
      ∃ t, PSs (cxOf CX0 P w K mg base N qual (defScope st) f cdv A outer s H E).nox (defBody st) t ∧ t { nx := fun _ H' => Q .non H', rt := Q } (start N vs) H) : FnG P w K mg base CX0 (k + 1) f fd ps sp := by
  obtain ⟨oc, od, dV, kV, doc, pm, an, cdv, ct, osl, rfl, lk, hcd, _, _⟩ := F.ex
  exact ⟨len, fun A o s H args us vs Q E hg hr e0 hb rv hsp => LamX.run_ofS lk hcd S hr e0 hb rv (len _ _ _ _ hsp) fun hr2 => let ⟨t, a, b⟩ := hbody cdv A o s H vs Q E hg hr2 hsp; ⟨t, a.nox, b⟩⟩
end
section
variable {X : Cx} {CX : CXT} {k n : Nat} {st : Stmt} {ps : List Str} {dvs : List V} {sp : Sp} {E : XK} {x : Str} {p pos : Pos} {e : Expr} {es : List Expr} {t : TA}
/-- f(e, ..): n values are written, the defaults behind the first j fill up -/
def tCallD (n j : Nat) (dvs : List V) (sp : Sp) (E : XK) (t : TA) : TE := fun σ H Q => t σ H fun vs H1 => vs.length = n ∧ sp (vs ++ dvs.drop j) H1 Q E
theorem pe_callD (n j : Nat) (D : DDef X.prog X.w X.K X.mg X.base CX k x st ps dvs sp) (hg : X.A.guards = some []) (hr : Room k X.A) (hgl : Gl X x) (hx : Passes CX X E) (hd : dvs ≠ [])
    (hbind : ∀ (T : Addr) (kV doc pm : Value) (an : Option Addr) (cdv ct : Value) (us its : List Value), us.length = n → its.length = dvs.length →
      ∃ k, bindArgs (PySem.W.fnOf x x (defArgs st) (defBody st) (defScope st) (.ref T) kV doc pm an cdv ct) ⟨us, []⟩ = seqItems? (.ref T) >>= k ∧ k (some its.toArray) = pure (ps.zip (us ++ its.drop j)))
    (ha : PA X (e :: es) t) (hdb : (x == ("__debug__" : Str)) = false := by decide) (he : starEach (e :: es) X.env = (false, eval e X.env) :: starEach es X.env := by rfl) (hpl : (backTo pos (starEach es X.env)).any (·.1) = false := by rfl) :
    PE X (.Call (.Name x p) (e :: es) [] pos) (tCallD n j dvs sp E t) := by
  obtain ⟨f, fd, F, hm, G⟩ := D.ex
  refine ⟨fun pins s σ H Q I h => wpAny_Call_Name_kw (ld_glob I hgl hm ?_ hdb)⟩
  refine PySem.W.callWith_K (h₀ := X.base) I.ok.mod.kin F.kp (thn (ha.run pos pins s σ H _ I h) fun us s1 ⟨vs, H1, I1, r, l, q⟩ => ⟨I1.kIn, ?_⟩) he hpl
  obtain ⟨oc, od, dV, kV, doc, pm, an, cdv, ct, osl, rfl, lk, hcd, hD, _⟩ := F.ex
  rcases hD with ⟨z, _⟩ | ⟨_, T, o, its, m, rfl, lT, oT, rT⟩
  · exact absurd z hd
  obtain ⟨k, e1, e2⟩ := hbind T kV doc pm an cdv ct us its (r.length.symm.trans l) rT.length.symm
  have rr : Vals (vs ++ dvs.drop j) (us ++ its.drop j) := r.append (rT.drop j)
  refine run_fnG (args := ⟨us, []⟩) (us := us ++ its.drop j) G hg hr hx (BindsTo.of_looks fun M => ?_) I1 rr q
  rw [e1]
  exact looks_items I1.kIn lT oT (.of_pure e2)
end
end SL

set_option Elab.async false
set_option linter.all false
set_option maxRecDepth 100000
set_option maxHeartbeats 1000000
/-! Own layer 27: the path is the latest of all least chains; what is behind a line of the best layout. -/
namespace SL
open PySem PySem.Spec PyProof.Rows L2
theorem linesF_desc {ns : Nat → Int} : ∀ {e : Nat} {f : Int}, (linesF ns e f).Pairwise (fun p q => q.1 < p.1) ∧ ∀ p ∈ linesF ns e f, p.1 < e
  | 0, _ => ⟨List.Pairwise.nil, fun _ h => nomatch h⟩
  | b + 1, f => by
    by_cases h : ns b < f
    · rw [linesF_yes h]
      obtain ⟨h1, h2⟩ := linesF_desc (ns := ns) (e := b) (f := f - (ns b + 1))
      refine ⟨List.pairwise_cons.mpr ⟨fun q hq => h2 q hq, h1⟩, fun p hp => ?_⟩
      rcases List.mem_cons.mp hp with rfl | hp
      · exact Nat.lt_succ_self _
      · exact Nat.lt_succ_of_lt (h2 p hp)
    · rw [linesF_no h]
      exact ⟨List.Pairwise.nil, fun _ h => nomatch h⟩
theorem hd_max {ls : List (Nat × Int)} {g : Nat × Int → Int} (hp : ls.Pairwise (fun p q => q.1 < p.1)) {p : Nat × Int} (hm : p ∈ ls) (he : g p = least (ls.map fun p => (g p, p.1))) : p.1 ≤ hd (ls.map fun p => (g p, p.1)) := by
  have pw : (cheap (ls.map fun p => (g p, p.1))).Pairwise (fun a b => b < a) := by
    unfold cheap
    refine List.Pairwise.map (R := fun x y : Int × Nat => y.2 < x.2) _ (fun _ _ h => h) (List.Pairwise.filter _ ?_)
    exact List.Pairwise.map (R := fun p q : Nat × Int => q.1 < p.1) _ (fun _ _ h => h) hp
  have hmem : p.1 ∈ cheap (ls.map fun p => (g p, p.1)) := List.mem_map.mpr ⟨(g p, p.1), List.mem_filter.mpr ⟨List.mem_map.mpr ⟨p, hm, rfl⟩, by simpa using he⟩, rfl⟩
  unfold hd
  match e : cheap (ls.map fun p => (g p, p.1)), pw, hmem with
  | b :: bs, pw, hmem =>
    rcases List.mem_cons.mp hmem with h | h
    · rw [h]
      exact Nat.le_refl _
    · exact Nat.le_of_lt ((List.pairwise_cons.mp pw).1 _ h)
def costF (ns : List Int) (m : Int) (es : List Nat) : Int := ((prs 0 es).map (sq ns m)).sum
def costO (ns : List Int) (m : Int) (es : List Nat) : Int := ((prs 0 es).dropLast.map (sq ns m)).sum
theorem costF_push {ns : List Int} {m : Int} {es : List Nat} {b x : Nat} (h : Chain ns m 0 es b) : costF ns m (es ++ [x]) = costF ns m es + (m - lenL ns b x) ^ 2 := by
  unfold costF
  rw [prs_push, List.map_append, List.sum_append, h.lastG]
  show _ + ((m - lenL ns b x) ^ 2 + 0) = _
  omega
theorem costO_push {ns : List Int} {m : Int} {es : List Nat} {x : Nat} : costO ns m (es ++ [x]) = costF ns m es := by
  unfold costO costF
  rw [prs_push, List.dropLast_concat]
theorem le_cons_self (x : Nat) {a b : List Nat} (h : a ≤ b) : x :: a ≤ x :: b := fun q => by
  rcases List.cons_lt_cons_iff.mp q with q | ⟨_, q⟩
  · exact Nat.lt_irrefl _ q
  · exact h q
theorem le_cons_lt {x y : Nat} {a b : List Nat} (h : x < y) : x :: a ≤ y :: b := fun q => by
  rcases List.cons_lt_cons_iff.mp q with q | ⟨q, _⟩ <;> omega
theorem le_nil (b : List Nat) : [] ≤ b := fun q => by cases q
/-- the path is the latest of the chains that cost as little -/
theorem late {ns : List Int} {m : Int} (hF : Fit m ns) {e : Nat} {es : List Nat} (h : Pth (fB (nsOf ns) m) e es) : ∀ {es' : List Nat}, e ≤ ns.length → Chain ns m 0 es' e → costF ns m es' = (cs (nsOf ns) m e).getD e 0 → es'.reverse ≤ es.reverse := by
  induction h with
  | z =>
    intro es' _ hc _
    have := hc.len
    obtain rfl : es' = [] := List.eq_nil_of_length_eq_zero (by omega)
    exact le_nil _
  | @s e es hp h ih =>
    intro es' he hc hcost
    by_cases h0 : es' = []
    · subst h0
      exact le_nil _
    obtain ⟨es1, x, rfl⟩ : ∃ es1 x, es' = es1 ++ [x] := ⟨es'.dropLast, es'.getLast h0, (List.dropLast_concat_getLast h0).symm⟩
    obtain ⟨rfl, b, hb, hlt, hle⟩ := hc.pop
    rw [List.reverse_append, List.reverse_append]
    have hin := line_in (fit_pos hF) he hle (k := x) (f := m + 1) hlt (Nat.le_refl _) (fun h => by omega) (fun _ => rfl)
    obtain ⟨d, rfl⟩ : ∃ d, x = d + 1 := ⟨x - 1, by omega⟩
    have hne : rate (cs (nsOf ns) m d) (linesF (nsOf ns) (d + 1) (m + 1)) ≠ [] := fun z => by
      rw [rate_nil.mp z] at hin
      cases hin
    have hmin := (least_spec hne).2 _ (List.mem_map.mpr ⟨_, hin, rfl⟩)
    dsimp only at hmin
    have ho := opt hF _ es1 b (Nat.le_refl _) hb (by omega)
    rw [costF_push hb, cs_at (Nat.le_refl _)] at hcost
    have hcp := cs_pre (ns := nsOf ns) (w := m) (b := b) (m := b) (n := d) (Nat.le_refl _) (by omega)
    rw [hcp] at hmin
    have ho : (cs (nsOf ns) m b).getD b 0 ≤ costF ns m es1 := ho
    have e1 : costF ns m es1 = (cs (nsOf ns) m b).getD b 0 := by omega
    have e2 : (cs (nsOf ns) m d).getD b 0 + (m - lenL ns b (d + 1)) ^ 2 = least (rate (cs (nsOf ns) m d) (linesF (nsOf ns) (d + 1) (m + 1))) := by rw [hcp]; omega
    have hbf : b ≤ fB (nsOf ns) m (d + 1) := hd_max (g := fun p => (cs (nsOf ns) m d).getD p.1 0 + p.2 ^ 2) linesF_desc.1 hin e2
    show (d + 1) :: es1.reverse ≤ (d + 1) :: es.reverse
    refine le_cons_self _ ?_
    by_cases hbe : b = fB (nsOf ns) m (d + 1)
    · exact ih (by omega) (hbe ▸ hb) (hbe ▸ e1)
    · have hq : ∃ es2, es = es2 ++ [fB (nsOf ns) m (d + 1)] := by
        have h' := h
        generalize fB (nsOf ns) m (d + 1) = y at h' hbe hbf ⊢
        cases h' with
        | z => omega
        | @s e2 es2 _ _ => exact ⟨es2, rfl⟩
      obtain ⟨es2, e3⟩ := hq
      rw [e3, List.reverse_append]
      by_cases h1 : es1 = []
      · subst h1
        exact le_nil _
      · obtain ⟨es3, y, rfl⟩ : ∃ es3 y, es1 = es3 ++ [y] := ⟨es1.dropLast, es1.getLast h1, (List.dropLast_concat_getLast h1).symm⟩
        obtain ⟨rfl, _⟩ := hb.pop
        rw [List.reverse_append]
        exact le_cons_lt (by omega)
/-- the best of all chains, by what it costs, then the latest -/
def BestC (ns : List Int) (m : Int) (cost : List Nat → Int) (es : List Nat) : Prop := Chain ns m 0 es ns.length ∧ ∀ es', Chain ns m 0 es' ns.length → cost es < cost es' ∨ (cost es = cost es' ∧ es'.reverse ≤ es.reverse)
theorem BestC.uni {ns : List Int} {m : Int} {cost : List Nat → Int} {es es' : List Nat} (h : BestC ns m cost es) (h' : BestC ns m cost es') : es = es' := by
  rcases h.2 _ h'.1 with a | ⟨a, b⟩ <;> rcases h'.2 _ h.1 with c | ⟨c, d⟩
  · omega
  · omega
  · omega
  · have : es.reverse = es'.reverse := List.le_antisymm d b
    simpa using congrArg List.reverse this
theorem closed_char {ns : List Int} {m : Int} (hF : Fit m ns) {es : List Nat} (h : Pth (fB (nsOf ns) m) ns.length es) : BestC ns m (costF ns m) es ∧ costF ns m es = (cs (nsOf ns) m ns.length).getD ns.length 0 := by
  obtain ⟨a, b⟩ := h.plan hF (n := 0) (Nat.le_refl _)
  have b : costF ns m es = (cs (nsOf ns) m ns.length).getD ns.length 0 := b
  refine ⟨⟨a, fun es' h' => ?_⟩, b⟩
  have h1 : (cs (nsOf ns) m ns.length).getD ns.length 0 ≤ costF ns m es' := closed_least hF h'
  by_cases e : costF ns m es' = (cs (nsOf ns) m ns.length).getD ns.length 0
  · exact .inr ⟨by omega, late hF h (Nat.le_refl _) h' e⟩
  · exact .inl (by omega)
theorem lB_least {ns : List Int} {m : Int} (hF : Fit m ns) {b : Nat} (hb : b < ns.length) (hl : lenL ns b ns.length ≤ m) :
    (cs (nsOf ns) m ns.length).getD (lB ns m) 0 ≤ (cs (nsOf ns) m ns.length).getD b 0 ∧ ((cs (nsOf ns) m ns.length).getD (lB ns m) 0 = (cs (nsOf ns) m ns.length).getD b 0 → b ≤ lB ns m) := by
  have hin := line_in (fit_pos hF) (Nat.le_refl _) hl (k := ns.length) (f := m + 1) hb (Nat.le_refl _) (fun h => by omega) (fun _ => rfl)
  have hne : rate0 (cs (nsOf ns) m ns.length) (linesF (nsOf ns) ns.length (m + 1)) ≠ [] := fun z => by
    rw [rate0_nil.mp z] at hin
    cases hin
  have hmin := (least_spec hne).2 _ (List.mem_map.mpr ⟨_, hin, rfl⟩)
  dsimp only at hmin
  obtain ⟨x, hx, h1, h2⟩ := hd_mem hne
  obtain ⟨q, hq, rfl⟩ := List.mem_map.mp hx
  have h1 : q.1 = lB ns m := h1
  have h2 : (cs (nsOf ns) m ns.length).getD q.1 0 = least (rate0 (cs (nsOf ns) m ns.length) (linesF (nsOf ns) ns.length (m + 1))) := h2
  rw [← h1]
  refine ⟨by omega, fun e => ?_⟩
  rw [h1]
  exact hd_max (g := fun p => (cs (nsOf ns) m ns.length).getD p.1 0) linesF_desc.1 hin (by show (cs (nsOf ns) m ns.length).getD b 0 = _; exact e ▸ h2)
theorem best_char {ns : List Int} {m : Int} (hF : Fit m ns) (h0 : 0 < ns.length) {es : List Nat} (h : Pth (fB (nsOf ns) m) (lB ns m) es) :
    BestC ns m (costO ns m) (es ++ [ns.length]) ∧ costO ns m (es ++ [ns.length]) = (cs (nsOf ns) m ns.length).getD (lB ns m) 0 := by
  obtain ⟨a, b⟩ := best_plan hF h0 h
  have b : costO ns m (es ++ [ns.length]) = (cs (nsOf ns) m ns.length).getD (lB ns m) 0 := b
  obtain ⟨l1, l2⟩ := lB_line hF h0
  refine ⟨⟨a, fun es' h' => ?_⟩, b⟩
  have hne : es' ≠ [] := fun z => by
    subst z
    have : 0 = ns.length := h'
    omega
  obtain ⟨es1, x, rfl⟩ : ∃ es1 x, es' = es1 ++ [x] := ⟨es'.dropLast, es'.getLast hne, (List.dropLast_concat_getLast hne).symm⟩
  obtain ⟨e0, b1, hb, hlt, hle⟩ := h'.pop
  subst e0
  rw [b, costO_push]
  have ho : (cs (nsOf ns) m b1).getD b1 0 ≤ costF ns m es1 := opt hF _ es1 b1 (Nat.le_refl _) hb (by omega)
  obtain ⟨q1, q2⟩ := lB_least hF hlt hle
  have hcp := cs_pre (ns := nsOf ns) (w := m) (b := b1) (m := b1) (n := ns.length) (Nat.le_refl _) (by omega)
  have hcl := cs_pre (ns := nsOf ns) (w := m) (b := lB ns m) (m := lB ns m) (n := ns.length) (Nat.le_refl _) (by omega)
  rw [hcp] at q1 q2
  by_cases e : (cs (nsOf ns) m ns.length).getD (lB ns m) 0 = costF ns m es1
  · refine .inr ⟨e, ?_⟩
    have e1 : costF ns m es1 = (cs (nsOf ns) m b1).getD b1 0 := by omega
    have hbl := q2 (by omega)
    rw [List.reverse_append, List.reverse_append]
    show ns.length :: es1.reverse ≤ ns.length :: es.reverse
    refine le_cons_self _ ?_
    by_cases hbe : b1 = lB ns m
    · exact late hF h (by omega) (hbe ▸ hb) (by rw [e1, hbe])
    · have hq : ∃ es2, es = es2 ++ [lB ns m] := by
        have h' := h
        generalize lB ns m = y at h' hbe hbl ⊢
        cases h' with
        | z => omega
        | @s e2 es2 _ _ => exact ⟨es2, rfl⟩
      obtain ⟨es2, e3⟩ := hq
      rw [e3, List.reverse_append]
      by_cases h1 : es1 = []
      · subst h1
        exact le_nil _
      · obtain ⟨es3, y, rfl⟩ : ∃ es3 y, es1 = es3 ++ [y] := ⟨es1.dropLast, es1.getLast h1, (List.dropLast_concat_getLast h1).symm⟩
        obtain ⟨rfl, _⟩ := hb.pop
        rw [List.reverse_append]
        exact le_cons_lt (by omega)
  · exact .inl (by omega)
end SL

set_option Elab.async false
set_option linter.all false
set_option maxRecDepth 100000
set_option maxHeartbeats 1000000
/-! Own layer 28: all plans, each once. -/
namespace SL
open PySem PySem.Spec PyProof.Rows L2
open Classical in
/-- zs goes on behind es, at b or later -/
noncomputable def third (es zs : List Nat) (b : Nat) : Nat := if ∃ x r, zs = es ++ x :: r ∧ b ≤ x then 1 else 0
def pre1 (es zs : List Nat) : Nat := if es <+: zs then 1 else 0
theorem third_yes {es zs : List Nat} {b x : Nat} {r : List Nat} (h : zs = es ++ x :: r) (hb : b ≤ x) : third es zs b = 1 := if_pos ⟨x, r, h, hb⟩
theorem third_no {es zs : List Nat} {b : Nat} (h : ∀ x r, zs = es ++ x :: r → x < b) : third es zs b = 0 := if_neg fun ⟨x, r, e, q⟩ => by have := h x r e; omega
theorem Chain.mid {ns : List Int} {m : Int} : ∀ {lo low hi x : Nat} {es r : List Nat}, Chain ns m lo es low → Chain ns m lo (es ++ x :: r) hi → low < x ∧ lenL ns low x ≤ m ∧ Chain ns m x r hi
  | lo, low, hi, x, [], r, h, h2 => by
    obtain rfl : lo = low := h
    exact h2
  | lo, low, hi, x, e :: es, r, h, h2 => Chain.mid (es := es) h.2.2 h2.2.2
theorem t_start {ns : List Int} {m : Int} {es zs : List Nat} {low n : Nat} (h : Chain ns m 0 es low) (h2 : Chain ns m 0 zs n) : pre1 es zs = (if es = zs then 1 else 0) + third es zs (low + 1) := by
  unfold pre1
  by_cases hp : es <+: zs
  · rw [if_pos hp]
    obtain ⟨r, rfl⟩ := hp
    match r, h2 with
    | [], h2 =>
      rw [if_pos (by simp), third_no (fun x r e => by
        have := congrArg List.length e
        simp at this)]
    | x :: r, h2 =>
      obtain ⟨a, _, _⟩ := h.mid h2
      rw [if_neg (fun e => by
        have := congrArg List.length e
        simp at this), third_yes rfl (by omega)]
  · rw [if_neg hp, if_neg (fun e : es = zs => hp (e ▸ List.prefix_refl es)), third_no (fun x r e => absurd ⟨x :: r, e.symm⟩ hp)]
theorem t_yes {es zs : List Nat} {b : Nat} : third es zs b = pre1 (es ++ [b]) zs + third es zs (b + 1) := by
  unfold pre1
  by_cases h : ∃ x r, zs = es ++ x :: r
  · obtain ⟨x, r, rfl⟩ := h
    have hu : ∀ y s, es ++ x :: r = es ++ y :: s → y = x := fun y s e => by
      have := List.append_cancel_left e
      exact (List.cons.inj this).1.symm
    by_cases hx : x = b
    · subst hx
      rw [third_yes rfl (Nat.le_refl _), if_pos ⟨r, by simp⟩, third_no fun y s e => by rw [hu y s e]; omega]
    · rw [if_neg (fun ⟨s, e⟩ => by
        rw [List.append_assoc] at e
        have := List.append_cancel_left e
        exact hx (List.cons.inj this).1.symm)]
      by_cases hb : b ≤ x
      · rw [third_yes rfl hb, third_yes rfl (by omega)]
      · rw [third_no fun y s e => by rw [hu y s e]; omega, third_no fun y s e => by rw [hu y s e]; omega]
  · rw [third_no fun x r e => absurd ⟨x, r, e⟩ h, third_no fun x r e => absurd ⟨x, r, e⟩ h, if_neg fun ⟨s, e⟩ => h ⟨b, s, by rw [← e, List.append_assoc]; rfl⟩]
theorem t_no {ns : List Int} {m : Int} {es zs : List Nat} {low n b : Nat} (h : Chain ns m 0 es low) (h2 : Chain ns m 0 zs n) (hL : ¬ lenL ns low b ≤ m) : third es zs b = third es zs (b + 1) := by
  rw [t_yes]
  have : pre1 (es ++ [b]) zs = 0 := if_neg fun ⟨s, e⟩ => by
    rw [← e, List.append_assoc] at h2
    exact hL (h.mid h2).2.1
  omega
theorem t_end {ns : List Int} {m : Int} {es zs : List Nat} {low n b : Nat} (h : Chain ns m 0 es low) (h2 : Chain ns m 0 zs n) (hb : n < b) : third es zs b = 0 := third_no fun x r e => by
  rw [e] at h2
  have := (h.mid h2).2.2.le
  omega
def preN (wes : List (List Nat)) (zs : List Nat) : Nat := (wes.map fun e => pre1 e zs).sum
theorem preN_push (wes : List (List Nat)) (es zs : List Nat) : preN (wes ++ [es]) zs = preN wes zs + pre1 es zs := by
  unfold preN
  rw [List.map_append, List.sum_append]
  simp
theorem count_push (fes : List (List Nat)) (es zs : List Nat) : (fes ++ [es]).count zs = fes.count zs + (if es = zs then 1 else 0) := by
  rw [List.count_append, List.count_singleton]
  congr 1
  by_cases h : es = zs
  · simp [h]
  · simp [h]
def spPlans2 (K : PySem.W.Frag) : Sp := fun vs H Q _ => ∃ (m : Int) (t : Addr) (ns : List Int), vs = [.int m, .ref t] ∧ SqT K H t (ns.map V.int) ∧ ns.length ≤ 9 ∧
  ∀ H' l rs ess, Same H H' → H l = none → H' l = some (.lst rs) → AllAt (TpAt K H') rs ess → (∀ es ∈ ess, Chain ns m 0 es ns.length) → rs.length ≤ 512 → (∀ zs, Chain ns m 0 zs ns.length → ess.count zs = 1) → Q (.ref l) H'
end SL

set_option Elab.async false
set_option linter.all false
set_option maxRecDepth 100000
set_option maxHeartbeats 2000000
/-! Own layer 29: the least of a list of data; a list of tuples of numbers sorted. -/
namespace SL
open PySem PySem.Spec PyProof.Rows L2
theorem minD_mem (d : PyData) (ds : List PyData) : PySem.W.minD d ds ∈ d :: ds := by
  unfold PySem.W.minD
  have : ∀ (ds : List PyData) (d : PyData), ds.foldl (fun a y => if PySem.W.dataLt y a then y else a) d = d ∨ ds.foldl (fun a y => if PySem.W.dataLt y a then y else a) d ∈ ds := by
    intro ds
    induction ds with
    | nil => exact fun _ => .inl rfl
    | cons x xs ih =>
      intro d
      rw [List.foldl_cons]
      rcases ih (if PySem.W.dataLt x d then x else d) with h | h
      · rw [h]
        split
        · exact .inr (List.mem_cons_self ..)
        · exact .inl rfl
      · exact .inr (List.mem_cons_of_mem _ h)
  rcases this ds d with h | h
  · rw [h]
    exact List.mem_cons_self ..
  · exact List.mem_cons_of_mem _ h
def rMinD (K : PySem.W.Frag) : List V → Hp → VK → Prop := fun vs H Q => ∃ (a : Addr) (xs : List V) (d : PyData) (ds : List PyData), vs = [V.ref a] ∧ SqL K H a xs ∧ DpAll K H xs (d :: ds) ∧ PySem.W.AlikeAll (d :: ds) ∧ PyData.depthAll (d :: ds) ≤ 50 ∧
  ∀ (i : Nat) (v : V), xs[i]? = some v → (d :: ds)[i]? = some (PySem.W.minD d ds) → Q v H
section
variable {X : Cx}
theorem cr_minD (hc : X.calm = true) (hu : X.A.units + 64 < cLine) : CallR X (.builtin "min") (rMinD X.K) := by
  intro pins s σ H vs us Q I r h
  obtain ⟨a, xs, d, ds, rfl, hs, hd, ha, hdep, q⟩ := h
  obtain ⟨its, rv, hl, hz⟩ := I.list hs
  obtain ⟨u, rfl, ru⟩ := vals1 r
  obtain rfl : u = Value.ref a := ru
  obtain ⟨as, ra⟩ := Dp.readsAll I (d :: ds) xs its hd rv
  have ra' : ReadsAll s.heap its.toArray.toList (d :: ds) as := by simpa using ra
  refine PySem.W.min_list_data (I.ok.hd hc) hl.isList ra' ha (by omega) fun i v h' tk bs hi r hk => ?_
  obtain ⟨bs', r', hlt, hm, _⟩ := PySem.W.readsAll_atA ra' i v hi
  have e := PySem.W.alike_unique _ _ _ _ _ (ha.1 _ hm _ (minD_mem d ds)) (PySem.W.reads_keeps hk r') r
  have hlx : xs.length = its.length := Paired.length rv
  have hii : i < its.length := by
    have := (Array.getElem?_eq_some_iff.mp hi).1
    simpa using this
  obtain ⟨u, hu2, rx⟩ := rv.get (i := i) (x := xs[i]'(by omega)) (by simp)
  have : v = u := by
    have hi2 : its[i]? = some v := by simpa using hi
    rw [hi2] at hu2
    exact Option.some.inj hu2
  subst this
  refine ⟨xs[i]'(by omega), H, I.kept hk, rx, q i _ (by simp) ?_⟩
  rw [← e, List.getElem?_eq_getElem hlt, List.getD_eq_getElem?_getD, List.getElem?_eq_getElem hlt]
  rfl
end
/-! ### tuples of numbers, sorted -/
def leN (a b : List Nat) : Bool := decide (a ≤ b)
theorem lt_cast : ∀ a b : List Nat, (a.map fun n : Nat => (n : Int)) < (b.map fun n : Nat => (n : Int)) ↔ a < b
  | [], [] => by simp
  | [], y :: ys => by simp
  | x :: xs, [] => by simp
  | x :: xs, y :: ys => by
    rw [List.map_cons, List.map_cons, List.cons_lt_cons_iff, List.cons_lt_cons_iff, lt_cast xs ys]
    constructor
    · rintro (h | ⟨h, h2⟩)
      · exact .inl (by omega)
      · exact .inr ⟨by omega, h2⟩
    · rintro (h | ⟨h, h2⟩)
      · exact .inl (by omega)
      · exact .inr ⟨by omega, h2⟩
theorem tupD_eq (es : List Nat) : tupD es = .tuple ((es.map fun n : Nat => (n : Int)).map PyData.int) := by
  unfold tupD
  rw [List.map_map]
  rfl
theorem lt_tupD (a b : List Nat) : PySem.W.dataLt (tupD a) (tupD b) = decide (a < b) := by
  rw [tupD_eq, tupD_eq, PySem.W.dataLt_tuple]
  show PySem.W.rowLt _ _ = _
  rw [PySem.W.dataLt_ints]
  rw [Bool.eq_iff_iff]
  simp only [decide_eq_true_eq]
  exact lt_cast a b
theorem le_tupD : PySem.W.dataLe false tupD = leN := by
  funext a b
  show (!PySem.W.dataLt (tupD b) (tupD a)) = decide (a ≤ b)
  rw [lt_tupD]
  by_cases h : b < a
  · have h' : ¬ a ≤ b := fun r => List.not_lt.mpr r h
    simp [h, h']
  · have h' : a ≤ b := List.not_lt.mp h
    simp [h, h']
theorem alike_tups (bs : List (List Nat)) : PySem.W.AllAlike (bs.map tupD) := PySem.W.AllAlike.of fun b b' => by
  rw [tupD_eq, tupD_eq]
  show PySem.W.alikeAll _ _ = true
  exact PySem.W.alike_ints _ _
def backA (u : Value) : V := match u with | .ref a => .ref a | _ => .non
def rSortN (K : PySem.W.Frag) : List V → Hp → VK → Prop := fun vs H Q => ∃ (a : Addr) (xs : List V) (bs : List (List Nat)), vs = [V.ref a] ∧ SqL K H a xs ∧ AllAt (TpAt K H) xs bs ∧ ((∀ b ∈ bs, b ≠ []) ∨ bs.length ≤ 1) ∧ bs.length ≤ 1000 ∧
  ∀ ys p, H p = none → AllAt (TpAt K H) ys (bs.mergeSort leN) → Q (.ref p) (upd H p (.lst ys))
section
variable {X : Cx}
theorem each_of {pins : List (Addr × Obj)} {σ : L2.St} {H : Hp} {s : Shared} (I : Inv X pins σ H s) : ∀ {xs : List V} {bs : List (List Nat)} {us : List Value}, AllAt (TpAt X.K H) xs bs → Vals xs us → PySem.W.EachIs (fun u b => ∃ t, u = Value.ref t ∧ TpAt X.K H t b) us bs ∧ PySem.W.EachIs (fun v b => ∃ as, Reads s.heap v (tupD b) as) us bs
  | [], [], us, _, r => by
    cases r
    exact ⟨.nil, .nil⟩
  | [], _ :: _, _, h, _ => nomatch h.1
  | _ :: _, [], _, h, _ => nomatch h.1
  | x :: xs, b :: bs, us, h, r => by
    cases r with
    | @cons _ u _ us r1 r2 =>
      obtain ⟨a, e, k⟩ := h.2 0 b rfl
      obtain rfl : x = .ref a := Option.some.inj e
      obtain rfl : u = Value.ref a := r1
      obtain ⟨e1, e2⟩ := each_of I h.tail r2
      exact ⟨.cons ⟨a, rfl, k⟩ e1, .cons (Dp.reads I _ _ _ (dp_tup k) rfl) e2⟩
theorem each_back {K : PySem.W.Frag} {H : Hp} : ∀ {us : List Value} {bs : List (List Nat)}, PySem.W.EachIs (fun u b => ∃ t, u = Value.ref t ∧ TpAt K H t b) us bs → AllAt (TpAt K H) (us.map backA) bs ∧ Vals (us.map backA) us
  | _, _, .nil => ⟨AllAt.nil, .nil⟩
  | _, _, .cons (a := u) (b := b) (as := us) (bs := bs) ⟨t, e, k⟩ r => by
    subst e
    obtain ⟨h1, h2⟩ := each_back r
    refine ⟨⟨by simp [h1.1.symm], fun i p q => ?_⟩, .cons rfl h2⟩
    match i, q with
    | 0, q =>
      obtain rfl : b = p := Option.some.inj q
      exact ⟨t, rfl, k⟩
    | i + 1, q => exact h1.2 i p q
theorem cr_sortN (hu : X.A.units + 64 < cLine) : CallR X (.builtin "sorted") (rSortN X.K) := by
  intro pins s σ H vs us Q I r h
  obtain ⟨a, xs, bs, rfl, hs, hA, hk, hL, q⟩ := h
  obtain ⟨its, rv, hl, hz⟩ := I.list hs
  rw [Vals.ref1 r]
  obtain ⟨e1, e2⟩ := each_of I hA rv
  have hlen := e1.length
  have fin : ∀ out : List Value, out.length = bs.length → PySem.W.EachIs (fun u b => ∃ t, u = Value.ref t ∧ TpAt X.K H t b) out (bs.mergeSort leN) → EP X pins σ Q (.ref (s.heap.objs.size + 1)) { s with heap := sortedAll s.heap its (List.toArray out) } := fun out ho eo => by
    obtain ⟨h1, h2⟩ := each_back eo
    obtain ⟨ep, he'⟩ := PyProof.Rows.sortedAll_at s.heap its (List.toArray out)
    have hlen : (out.map backA).length ≤ sizeLine := by rw [List.length_map, ho, sizeLine_eq]; omega
    exact ⟨.ref _, upd H (s.heap.objs.size + 1) (.lst (out.map backA)), I.laid (t' := s.toks) (fun _ _ => PyProof.Rows.sortedAll_old) (Nat.le_succ _) ⟨hlen, out, ep, h2, he'⟩, rfl, q _ _ (I.hok.fresh (Nat.le_succ _)) h1⟩
  rcases hk with hk | hk
  · refine PySem.W.sorted_data (enc := tupD) hl.isList e1 e2 (alike_tups bs) (.inl fun d hd => ?_) (by rw [sizeLine_eq]; omega) (fun b _ => ?_) fun out ho eo => fin out ho (by rw [le_tupD] at eo; exact eo)
    · obtain ⟨b, hb, rfl⟩ := List.mem_map.mp hd
      match b, hk b hb with
      | x :: r, _ => exact ⟨_, _, rfl⟩
    · have hd : (tupD b).depth ≤ 1 := by
        have := (can_ints b).2
        unfold tupD
        simp only [PyData.depth]
        omega
      omega
  · refine SrtO.sorted_ord (ltv := fun _ _ => false) ⟨fun _ _ _ => rfl, fun _ _ _ _ _ => rfl⟩ hl.isList (by rw [hlen, sizeLine_eq]; omega) (fun h2 => by rw [hlen] at h2; omega) fun out _ hb => ?_
    have e3 : out = its := by
      have hp := hb.perm
      match its, hp, hlen with
      | [], hp, _ => exact hp.eq_nil
      | [x], hp, _ => exact List.perm_singleton.mp hp
      | _ :: _ :: _, _, h3 =>
        rw [← h3] at hk
        simp at hk
    subst e3
    refine fin out hlen ?_
    have e4 : bs.mergeSort leN = bs := by
      match bs, hk with
      | [], _ => simp
      | [b], _ => simp
      | _ :: _ :: _, hk => simp at hk
    rw [e4]
    exact e1
end
end SL

set_option Elab.async false
set_option linter.all false
set_option maxRecDepth 100000
set_option maxHeartbeats 1000000
/-! Own layer 30: the chosen of weighed layouts. -/
namespace SL
open PySem PySem.Spec PyProof.Rows L2
def WtAt (K : PySem.W.Frag) (H : Hp) (a : Addr) (p : Int × List Nat) : Prop := ∃ t, H a = some (.tup [.int p.1, .ref t]) ∧ TpAt K H t p.2
theorem WtAt.same {K : PySem.W.Frag} {H H' : Hp} (k : Same H H') : ∀ a p, WtAt K H a p → WtAt K H' a p := fun _ _ ⟨t, h1, h2⟩ => ⟨t, k _ _ h1, Same.tup k h2⟩
theorem WtAt.lst {K : PySem.W.Frag} {H : Hp} {l : Addr} {ys : List V} {o : HO} (hl : H l = some (.lst ys)) : ∀ a p, WtAt K H a p → WtAt K (upd H l o) a p := fun _ _ ⟨t, h1, h2⟩ => ⟨t, tup_past hl h1, sqT_past hl h2⟩
theorem AllAt.rev {α : Type} {R : Addr → α → Prop} {rs : List V} {ps : List α} (h : AllAt R rs ps) : AllAt R rs.reverse ps.reverse := by
  refine ⟨by rw [List.length_reverse, List.length_reverse, h.1], fun i p e => ?_⟩
  have hi : i < ps.length := by
    have := (List.getElem?_eq_some_iff.mp e).1
    rwa [List.length_reverse] at this
  rw [List.getElem?_reverse hi] at e
  obtain ⟨a, e1, e2⟩ := h.2 _ p e
  exact ⟨a, by rw [List.getElem?_reverse (by rw [h.1]; exact hi), h.1]; exact e1, e2⟩
def chosen (z : Int) (ps : List (Int × List Nat)) : List (List Nat) := ((((ps.filter fun p => decide (p.1 = z)).map fun p => p.2.reverse).mergeSort leN).reverse).map List.reverse
theorem leN_trans (a b c : List Nat) : leN a b = true → leN b c = true → leN a c = true := fun h1 h2 => decide_eq_true (List.le_trans (of_decide_eq_true h1) (of_decide_eq_true h2))
theorem leN_total (a b : List Nat) : (leN a b || leN b a) = true := by
  rcases List.le_total a b with h | h
  · have : leN a b = true := decide_eq_true h
    rw [this]
    rfl
  · have : leN b a = true := decide_eq_true h
    rw [this, Bool.or_true]
theorem sort_last {L : List (List Nat)} {x : List Nat} (hx : x ∈ L) (h : ∀ y ∈ L, y ≤ x) : (L.mergeSort leN).reverse[0]? = some x := by
  have hs := List.pairwise_mergeSort leN_trans leN_total L
  have hm : x ∈ L.mergeSort leN := List.mem_mergeSort.mpr hx
  have hne : L.mergeSort leN ≠ [] := fun e => by rw [e] at hm; cases hm
  obtain ⟨M, y, e⟩ : ∃ M y, L.mergeSort leN = M ++ [y] := ⟨_, _, (List.dropLast_concat_getLast hne).symm⟩
  rw [e] at hs hm ⊢
  have hy : y ∈ L := List.mem_mergeSort.mp (by rw [e]; simp)
  rw [List.reverse_append]
  show some y = some x
  congr 1
  refine List.le_antisymm (h y hy) ?_
  rcases List.mem_append.mp hm with hm | hm
  · exact of_decide_eq_true ((List.pairwise_append.mp hs).2.2 x hm y (List.mem_cons_self ..))
  · rw [List.mem_singleton.mp hm]
    exact List.le_refl _
/-- of all chains with their costs, the first chosen one is the best -/
theorem chosen_head {ns : List Int} {m : Int} {cost : List Nat → Int} {ess : List (List Nat)} {es : List Nat} {z : Int} (hB : BestC ns m cost es) (hm : es ∈ ess) (hc : ∀ e ∈ ess, Chain ns m 0 e ns.length)
    (hz : z ∈ (ess.map fun e => (cost e, e)).map (·.1)) (hz2 : ∀ y ∈ (ess.map fun e => (cost e, e)).map (·.1), z ≤ y) : (chosen z (ess.map fun e => (cost e, e)))[0]? = some es ∧ z = cost es := by
  have hle : ∀ e ∈ ess, cost es ≤ cost e := fun e he => by
    rcases hB.2 e (hc e he) with h | ⟨h, _⟩ <;> omega
  have ez : z = cost es := by
    obtain ⟨p, hp, rfl⟩ := List.mem_map.mp hz
    obtain ⟨e, he, rfl⟩ := List.mem_map.mp hp
    have h1 := hle e he
    have h2 := hz2 (cost es) (List.mem_map.mpr ⟨(cost es, es), List.mem_map.mpr ⟨es, hm, rfl⟩, rfl⟩)
    show cost e = cost es
    have h2 : cost e ≤ cost es := h2
    omega
  refine ⟨?_, ez⟩
  have e1 : ((ess.map fun e => (cost e, e)).filter fun p => decide (p.1 = z)).map (fun p => p.2.reverse) = (ess.filter fun e => decide (cost e = z)).map List.reverse := by
    rw [List.filter_map, List.map_map]
    rfl
  unfold chosen
  rw [e1, List.getElem?_map, sort_last (x := es.reverse)]
  · show some (es.reverse.reverse) = some es
    rw [List.reverse_reverse]
  · exact List.mem_map.mpr ⟨es, List.mem_filter.mpr ⟨hm, by simp [ez]⟩, rfl⟩
  · intro y hy
    obtain ⟨e, he, rfl⟩ := List.mem_map.mp hy
    obtain ⟨he1, he2⟩ := List.mem_filter.mp he
    have he2 : cost e = z := by simpa using he2
    rcases hB.2 e (hc e he1) with h | ⟨_, h⟩
    · omega
    · exact h
def spChosen (K : PySem.W.Frag) : Sp := fun vs H Q _ => ∃ (l : Addr) (rs : List V) (ps : List (Int × List Nat)), vs = [.ref l] ∧ H l = some (.lst rs) ∧ AllAt (WtAt K H) rs ps ∧ ps ≠ [] ∧ ps.length ≤ 600 ∧ ((∀ p ∈ ps, p.2 ≠ []) ∨ ps.length ≤ 1) ∧
  ∀ z, z ∈ ps.map (·.1) → (∀ y ∈ ps.map (·.1), z ≤ y) → ∀ H' r ys, Same H H' → H' r = some (.lst ys) → AllAt (TpAt K H') ys (chosen z ps) → Q (.ref r) H'
theorem chain_ne {ns : List Int} {m : Int} {es : List Nat} (h : Chain ns m 0 es ns.length) (h0 : 0 < ns.length) : es ≠ [] := fun e => by
  subst e
  have : 0 = ns.length := h
  omega
theorem nodup_of {ns : List Int} {m : Int} {ess : List (List Nat)} (hc : ∀ e ∈ ess, Chain ns m 0 e ns.length) (h1 : ∀ zs, Chain ns m 0 zs ns.length → ess.count zs = 1) : ess.Nodup := List.nodup_iff_count.mpr fun a => by
  by_cases h : a ∈ ess
  · rw [h1 a (hc a h)]
    exact Nat.le_refl _
  · rw [List.count_eq_zero.mpr h]
    exact Nat.zero_le _
theorem one_empty {ns : List Int} {m : Int} {ess : List (List Nat)} (h0 : ns.length = 0) (hc : ∀ e ∈ ess, Chain ns m 0 e ns.length) (h1 : ∀ zs, Chain ns m 0 zs ns.length → ess.count zs = 1) : ess.length ≤ 1 := by
  have hn := nodup_of hc h1
  have he : ∀ e ∈ ess, e = [] := fun e he => by
    have := (hc e he).len
    exact List.eq_nil_of_length_eq_zero (by omega)
  match ess, hn, he with
  | [], _, _ => exact Nat.zero_le _
  | [_], _, _ => exact Nat.le_refl _
  | a :: b :: r, hn, he =>
    have ha := he a (by simp)
    have hb := he b (by simp)
    subst ha hb
    simp at hn
end SL

set_option Elab.async false
set_option linter.all false
set_option maxRecDepth 100000
set_option maxHeartbeats 1000000
/-! Own layer 31: the least of weighed layouts; the best layout told by its promise. -/
namespace SL
open PySem PySem.Spec PyProof.Rows L2
def encW (p : Int × List Nat) : PyData := .tuple [.int p.1, tupD p.2]
theorem lt_encW (p q : Int × List Nat) : (PySem.W.dataLt (encW p) (encW q) = true → p.1 ≤ q.1) ∧ (PySem.W.dataLt (encW p) (encW q) = false → q.1 ≤ p.1) := by
  have ha : PySem.W.alike (tupD p.2) (tupD q.2) = true := by
    rw [tupD_eq, tupD_eq]
    exact PySem.W.alike_ints _ _
  unfold encW
  rw [PySem.W.dataLt_pair (by simp [PySem.W.alike]) ha, PySem.W.dataLt_int]
  simp only [PyData.eqv, beq_iff_eq]
  by_cases h : p.1 = q.1
  · exact ⟨fun _ => by omega, fun _ => by omega⟩
  · rw [if_neg h]
    exact ⟨fun z => by have := of_decide_eq_true z; omega, fun z => by have := of_decide_eq_false z; omega⟩
theorem minD_encW : ∀ (ps : List (Int × List Nat)) (p : Int × List Nat), ∃ p', PySem.W.minD (encW p) (ps.map encW) = encW p' ∧ p'.1 ≤ p.1 ∧ ∀ q ∈ ps, p'.1 ≤ q.1
  | [], p => ⟨p, rfl, Int.le_refl _, fun _ h => nomatch h⟩
  | q :: ps, p => by
    obtain ⟨h1, h2⟩ := lt_encW q p
    by_cases h : PySem.W.dataLt (encW q) (encW p) = true
    · obtain ⟨p', e, l1, l2⟩ := minD_encW ps q
      have h1 := h1 h
      refine ⟨p', ?_, by omega, fun x hx => ?_⟩
      · rw [← e]
        unfold PySem.W.minD
        rw [List.map_cons, List.foldl_cons, if_pos h]
      · rcases List.mem_cons.mp hx with rfl | hx
        · exact l1
        · exact l2 x hx
    · obtain ⟨p', e, l1, l2⟩ := minD_encW ps p
      have h2 := h2 (by simpa using h)
      refine ⟨p', ?_, l1, fun x hx => ?_⟩
      · rw [← e]
        unfold PySem.W.minD
        rw [List.map_cons, List.foldl_cons, if_neg h]
      · rcases List.mem_cons.mp hx with rfl | hx
        · omega
        · exact l2 x hx
theorem alike_encW (ps : List (Int × List Nat)) : PySem.W.AlikeAll (ps.map encW) := by
  refine ⟨fun x hx y hy => ?_, fun x hx => ?_⟩
  · obtain ⟨p, _, rfl⟩ := List.mem_map.mp hx
    obtain ⟨q, _, rfl⟩ := List.mem_map.mp hy
    have ha : PySem.W.alike (tupD p.2) (tupD q.2) = true := by
      rw [tupD_eq, tupD_eq]
      exact PySem.W.alike_ints _ _
    unfold encW
    simp [PySem.W.alike, PySem.W.alikeAll, ha]
  · obtain ⟨p, _, rfl⟩ := List.mem_map.mp hx
    exact fun e => by cases e
theorem depth_encW : ∀ ps : List (Int × List Nat), PyData.depthAll (ps.map encW) ≤ 2
  | [] => Nat.zero_le _
  | p :: ps => by
    have h := depth_encW ps
    have h2 := (can_ints p.2).2
    simp only [List.map_cons, PyData.depthAll, encW, PyData.depth, tupD]
    omega
theorem dp_encW {K : PySem.W.Frag} {H : Hp} : ∀ {rs : List V} {ps : List (Int × List Nat)}, AllAt (WtAt K H) rs ps → DpAll K H rs (ps.map encW)
  | [], [], _ => .nil
  | [], _ :: _, h => nomatch h.1
  | _ :: _, [], h => nomatch h.1
  | r :: rs, p :: ps, h => by
    obtain ⟨a, e, t, h1, h2⟩ := h.2 0 p rfl
    obtain rfl : r = .ref a := Option.some.inj e
    exact .cons (.tup (SqT.of h1) (.cons (.int _) (.cons (dp_tup h2) .nil))) (dp_encW h.tail)
/-- what min gives of weighed layouts weighs least -/
theorem min_wt {ps : List (Int × List Nat)} {p : Int × List Nat} {i : Nat} {z : Int} (h : ((p :: ps).map encW)[i]? = some (PySem.W.minD (encW p) (ps.map encW))) (hz : z ∈ (p :: ps).map (·.1)) (hz2 : ∀ y ∈ (p :: ps).map (·.1), z ≤ y) : ∃ q, (p :: ps)[i]? = some q ∧ q.1 = z := by
  obtain ⟨p', e, l1, l2⟩ := minD_encW ps p
  rw [e, List.getElem?_map] at h
  match q : (p :: ps)[i]? with
  | none => rw [q] at h; cases h
  | some x =>
    rw [q] at h
    have h := Option.some.inj h
    have h3 : x.1 = p'.1 := by
      unfold encW at h
      injection h with h
      injection h with h _
      injection h
    refine ⟨x, rfl, ?_⟩
    have h4 := hz2 x.1 (List.mem_map.mpr ⟨x, List.mem_of_getElem? q, rfl⟩)
    obtain ⟨y, hy, rfl⟩ := List.mem_map.mp hz
    rcases List.mem_cons.mp hy with rfl | hy
    · omega
    · have := l2 y hy
      omega
theorem best_told {ns : List Int} {m : Int} (hF : Fit m ns) {es : List Nat} (h1 : ns = [] → es = []) (h2 : 0 < ns.length → ∃ es0, es = es0 ++ [ns.length] ∧ Pth (fB (nsOf ns) m) (lB ns m) es0) :
    BestC ns m (costO ns m) es ∧ costO ns m es = (cs (nsOf ns) m ns.length).getD (lB ns m) 0 := by
  by_cases h0 : 0 < ns.length
  · obtain ⟨es0, rfl, h⟩ := h2 h0
    exact best_char hF h0 h
  · obtain rfl : ns = [] := List.eq_nil_of_length_eq_zero (by omega)
    obtain rfl := h1 rfl
    refine ⟨⟨rfl, fun es' h' => ?_⟩, rfl⟩
    have := h'.len
    obtain rfl : es' = [] := by simpa using this
    exact .inr ⟨rfl, List.le_refl _⟩
theorem best_exists {ns : List Int} {m : Int} (hF : Fit m ns) : ∃ es, BestC ns m (costO ns m) es ∧ costO ns m es = (cs (nsOf ns) m ns.length).getD (lB ns m) 0 := by
  by_cases h0 : 0 < ns.length
  · obtain ⟨h1, _⟩ := lB_line hF h0
    obtain ⟨es, h⟩ := Pth.ex hF ns.length (lB ns m) (by omega) (by omega)
    exact ⟨_, best_char hF h0 h⟩
  · exact ⟨[], best_told hF (fun _ => rfl) (fun z => absurd z h0)⟩
theorem closed_exists {ns : List Int} {m : Int} (hF : Fit m ns) : ∃ es, BestC ns m (costF ns m) es ∧ costF ns m es = (cs (nsOf ns) m ns.length).getD ns.length 0 := by
  obtain ⟨es, h⟩ := Pth.ex hF ns.length ns.length (Nat.le_refl _) (Nat.le_refl _)
  exact ⟨es, closed_char hF h⟩
end SL

set_option Elab.async false
set_option linter.all false
set_option maxRecDepth 100000
set_option maxHeartbeats 1000000
/-! Own layer 32: parts of layouts. -/
namespace SL
open PySem PySem.Spec PyProof.Rows L2
theorem Chain.split {ns : List Int} {m : Int} : ∀ {lo hi : Nat} {pre suf : List Nat}, Chain ns m lo (pre ++ suf) hi → ∃ mid, Chain ns m lo pre mid ∧ Chain ns m mid suf hi
  | lo, hi, [], suf, h => ⟨lo, rfl, h⟩
  | lo, hi, e :: pre, suf, h => by
    obtain ⟨mid, a, b⟩ := Chain.split (pre := pre) h.2.2
    exact ⟨mid, ⟨h.1, h.2.1, a⟩, b⟩
theorem Chain.join {ns : List Int} {m : Int} : ∀ {lo mid hi : Nat} {pre suf : List Nat}, Chain ns m lo pre mid → Chain ns m mid suf hi → Chain ns m lo (pre ++ suf) hi
  | lo, mid, hi, [], suf, h, h2 => by
    obtain rfl : lo = mid := h
    exact h2
  | lo, mid, hi, e :: pre, suf, h, h2 => ⟨h.1, h.2.1, Chain.join h.2.2 h2⟩
theorem lenL_drop (ns : List Int) (d lo hi : Nat) : lenL (ns.drop d) lo hi = lenL ns (lo + d) (hi + d) := by
  unfold lenL
  rw [List.drop_drop, show d + lo = lo + d by omega, show hi + d - (lo + d) = hi - lo by omega]
  omega
theorem chain_drop {ns : List Int} {m : Int} {d : Nat} : ∀ {lo hi : Nat} {es : List Nat}, Chain (ns.drop d) m lo es hi ↔ Chain ns m (lo + d) (es.map (· + d)) (hi + d)
  | lo, hi, [] => by
    show lo = hi ↔ lo + d = hi + d
    omega
  | lo, hi, e :: es => by
    show (lo < e ∧ lenL (ns.drop d) lo e ≤ m ∧ Chain (ns.drop d) m e es hi) ↔ (lo + d < e + d ∧ lenL ns (lo + d) (e + d) ≤ m ∧ Chain ns m (e + d) (es.map (· + d)) (hi + d))
    rw [lenL_drop, chain_drop]
    constructor
    · rintro ⟨a, b, c⟩
      exact ⟨by omega, b, c⟩
    · rintro ⟨a, b, c⟩
      exact ⟨by omega, b, c⟩
theorem Chain.gt {ns : List Int} {m : Int} : ∀ {lo hi : Nat} {es : List Nat}, Chain ns m lo es hi → ∀ x ∈ es, lo < x
  | lo, hi, [], _, x, hx => nomatch hx
  | lo, hi, e :: es, h, x, hx => by
    rcases List.mem_cons.mp hx with rfl | hx
    · exact h.1
    · have := Chain.gt h.2.2 x hx
      have := h.1
      omega
theorem prs_app : ∀ (lo : Nat) (a b : List Nat), prs lo (a ++ b) = prs lo a ++ prs (a.getLast?.getD lo) b
  | lo, [], b => rfl
  | lo, e :: a, b => by
    show (lo, e) :: prs e (a ++ b) = (lo, e) :: (prs e a ++ _)
    rw [prs_app e a b]
    match a with
    | [] => rfl
    | f :: a => rfl
theorem sq_drop (ns : List Int) (m : Int) (d : Nat) (lo : Nat) (t : List Nat) : (prs (lo + d) (t.map (· + d))).map (sq ns m) = (prs lo t).map (sq (ns.drop d) m) := by
  rw [prs_map (· + d) lo t, List.map_map]
  refine List.map_congr_left fun p _ => ?_
  show (m - lenL ns (p.1 + d) (p.2 + d)) ^ 2 = (m - lenL (ns.drop d) p.1 p.2) ^ 2
  rw [lenL_drop]
/-- what a layout costs that has the ends pre, then those of a layout of the rest -/
theorem costO_join {ns : List Int} {m : Int} {d : Nat} {pre t : List Nat} (h : Chain ns m 0 pre d) (ht : t ≠ []) : costO ns m (pre ++ t.map (· + d)) = costF ns m pre + costO (ns.drop d) m t := by
  unfold costO costF
  rw [prs_app, h.lastG]
  have hne : prs d (t.map (· + d)) ≠ [] := fun e => by
    have := congrArg List.length e
    rw [prs_len, List.length_map] at this
    exact ht (List.eq_nil_of_length_eq_zero this)
  rw [List.dropLast_append_of_ne_nil hne, List.map_append, List.sum_append]
  congr 1
  have := sq_drop ns m d 0 t
  rw [Nat.zero_add] at this
  rw [List.map_dropLast, this, ← List.map_dropLast]
theorem lt_app {d : Nat} : ∀ (a b c : List Nat), (∀ x ∈ a, d < x) → (∀ y ∈ c, y ≤ d) → b < a → b ++ c < a ++ c
  | [], b, c, _, _, h => by cases h
  | x :: a, [], c, h1, h2, _ => by
    match c, h2 with
    | [], _ => simp
    | y :: c, h2 =>
      have := h1 x (List.mem_cons_self ..)
      have := h2 y (List.mem_cons_self ..)
      exact List.cons_lt_cons_iff.mpr (.inl (by omega))
  | x :: a, y :: b, c, h1, h2, h => by
    rcases List.cons_lt_cons_iff.mp h with h | ⟨h, h3⟩
    · exact List.cons_lt_cons_iff.mpr (.inl h)
    · exact List.cons_lt_cons_iff.mpr (.inr ⟨h, lt_app a b c (fun z hz => h1 z (List.mem_cons_of_mem _ hz)) h2 h3⟩)
theorem Chain.mem_le {ns : List Int} {m : Int} {lo hi : Nat} {es : List Nat} (h : Chain ns m lo es hi) : ∀ e ∈ es, e ≤ hi := fun e he => by
  obtain ⟨a, b, rfl⟩ := List.append_of_mem he
  obtain ⟨_, _, h2⟩ := h.split
  exact h2.2.2.le
theorem map_lt_of {d : Nat} {a b : List Nat} (h : a < b) : a.map (· + d) < b.map (· + d) := List.map_lt (fun _ _ h => by omega) h
/-- what is behind an end of the best layout is the best layout of the words there -/
theorem best_suffix {ns : List Int} {m : Int} {d : Nat} {pre t : List Nat} (hB : BestC ns m (costO ns m) (pre ++ t.map (· + d))) (hp : Chain ns m 0 pre d) (ht : t ≠ []) (hd : d ≤ ns.length) : BestC (ns.drop d) m (costO (ns.drop d) m) t := by
  have hl : (ns.drop d).length + d = ns.length := by rw [List.length_drop]; omega
  obtain ⟨mid, h1, h2⟩ := hB.1.split
  have e : mid = d := by rw [← h1.lastG, hp.lastG]
  subst e
  have hc : Chain (ns.drop mid) m 0 t (ns.drop mid).length := chain_drop.mpr (by rw [hl, Nat.zero_add]; exact h2)
  refine ⟨hc, fun t' h' => ?_⟩
  have hj := hp.join (by have := chain_drop.mp h'; rwa [hl, Nat.zero_add] at this)
  have hdl : mid < ns.length := by
    have h3 := hc.le
    have : 0 < t.length := List.length_pos_iff.mpr ht
    have h4 := hc.len
    omega
  have ht' : t' ≠ [] := fun e => by
    subst e
    have : 0 = (ns.drop mid).length := h'
    omega
  have hB2 := hB.2 _ hj
  rw [costO_join hp ht, costO_join hp ht'] at hB2
  rcases hB2 with h | ⟨h, h3⟩
  · exact .inl (by omega)
  · refine .inr ⟨by omega, fun q => h3 ?_⟩
    rw [List.reverse_append, List.reverse_append, ← List.map_reverse, ← List.map_reverse]
    refine lt_app (d := mid) _ _ _ (fun x hx => ?_) (fun y hy => ?_) (map_lt_of q)
    · obtain ⟨z, hz, rfl⟩ := List.mem_map.mp hx
      have := h'.gt z (List.mem_reverse.mp hz)
      show mid < z + mid
      omega
    · exact hp.mem_le y (List.mem_reverse.mp hy)
/-! ### beginnings of paths -/
theorem fB_congr {ns ms : Nat → Int} {w : Int} : ∀ {e : Nat}, (∀ b < e, ns b = ms b) → fB ns w e = fB ms w e
  | 0, _ => rfl
  | e + 1, h => by
    show hd (rate (cs ns w e) (linesF ns (e + 1) (w + 1))) = hd (rate (cs ms w e) (linesF ms (e + 1) (w + 1)))
    rw [cs_congr (e := e) fun c hc => h c (by omega), linesF_congr h]
theorem ns_take {ns : List Int} {d b : Nat} (h : b < d) : nsOf (ns.take d) b = nsOf ns b := by
  unfold nsOf
  rw [List.getD_eq_getElem?_getD, List.getElem?_take_of_lt h, ← List.getD_eq_getElem?_getD]
theorem pth_congr {f g : Nat → Nat} {e : Nat} {es : List Nat} (h : Pth f e es) : (∀ k, k ≤ e → f k = g k) → (∀ k, 1 ≤ k → k ≤ e → f k < k) → Pth g e es := by
  induction h with
  | z => exact fun _ _ => .z
  | @s e es hp h ih =>
    intro h1 h2
    have h3 := h2 e hp (Nat.le_refl _)
    refine .s hp ?_
    rw [← h1 e (Nat.le_refl _)]
    exact ih (fun k hk => h1 k (by omega)) fun k a b => h2 k a (by omega)
theorem fit_take {m : Int} {ns : List Int} (h : Fit m ns) (d : Nat) : Fit m (ns.take d) := fit_of fun x hx => fit_all h x (List.mem_of_mem_take hx)
theorem fit_drop {m : Int} {ns : List Int} (h : Fit m ns) (d : Nat) : Fit m (ns.drop d) := fit_of fun x hx => fit_all h x (List.mem_of_mem_drop hx)
theorem fB_lt' {ns : List Int} {m : Int} (hF : Fit m ns) {k : Nat} (h1 : 1 ≤ k) (h2 : k ≤ ns.length) : fB (nsOf ns) m k < k := by
  obtain ⟨e, rfl⟩ : ∃ e, k = e + 1 := ⟨k - 1, by omega⟩
  exact fB_lt hF (by omega)
/-- the closed layout of the first d words -/
theorem pth_take {ns : List Int} {m : Int} (hF : Fit m ns) {d : Nat} (hd : d ≤ ns.length) {es : List Nat} (h : Pth (fB (nsOf (ns.take d)) m) d es) : Pth (fB (nsOf ns) m) d es := by
  have hl : (ns.take d).length = d := by rw [List.length_take]; omega
  exact pth_congr h (fun k hk => fB_congr fun b hb => ns_take (by omega)) fun k h1 h2 => fB_lt' (fit_take hF d) h1 (by omega)
theorem Pth.pre {f : Nat → Nat} {e : Nat} {es : List Nat} (h : Pth f e es) : ∀ (a b : List Nat) (x : Nat), es = a ++ x :: b → Pth f x (a ++ [x]) := by
  induction h with
  | z =>
    intro a b x e
    have := congrArg List.length e
    simp at this
  | @s e es hp h ih =>
    intro a b x q
    by_cases hb : b = []
    · subst hb
      obtain ⟨q1, q2⟩ := List.append_inj' q rfl
      obtain rfl : e = x := by simpa using q2
      subst q1
      exact .s hp h
    · obtain ⟨b', y, rfl⟩ : ∃ b' y, b = b' ++ [y] := ⟨b.dropLast, b.getLast hb, (List.dropLast_concat_getLast hb).symm⟩
      rw [← List.cons_append, ← List.append_assoc] at q
      obtain ⟨q1, _⟩ := List.append_inj' q rfl
      exact ih a b' x q1
theorem Pth.take {f : Nat → Nat} {e : Nat} {es : List Nat} (h : Pth f e es) {i x : Nat} (hx : es[i]? = some x) : Pth f x (es.take (i + 1)) := by
  have hi := (List.getElem?_eq_some_iff.mp hx).1
  have e1 : es = es.take i ++ x :: es.drop (i + 1) := by
    have : es.drop i = x :: es.drop (i + 1) := by
      rw [List.drop_eq_getElem_cons hi]
      rw [List.getElem?_eq_getElem hi] at hx
      rw [Option.some.inj hx]
    rw [← this, List.take_append_drop]
  rw [take_succ hx]
  exact h.pre _ _ _ e1
theorem cs_take {ns : List Int} {m : Int} {d e b : Nat} (hb : b ≤ e) (hd : e ≤ d) : (cs (nsOf (ns.take d)) m e).getD b 0 = (cs (nsOf ns) m e).getD b 0 := by
  rw [cs_congr (ms := nsOf ns) fun c hc => ns_take (by omega)]
/-! ### pairs of numbers, the least -/
def encP (p : Int × Int) : PyData := .tuple [.int p.1, .int p.2]
def leP (p q : Int × Int) : Prop := p.1 < q.1 ∨ (p.1 = q.1 ∧ p.2 ≤ q.2)
theorem minD_encP : ∀ (ps : List (Int × Int)) (p : Int × Int), ∃ p', PySem.W.minD (encP p) (ps.map encP) = encP p' ∧ (p' = p ∨ p' ∈ ps) ∧ leP p' p ∧ ∀ q ∈ ps, leP p' q
  | [], p => ⟨p, rfl, .inl rfl, .inr ⟨rfl, Int.le_refl _⟩, fun _ h => nomatch h⟩
  | q :: ps, p => by
    have hd : PySem.W.dataLt (encP q) (encP p) = decide (q.1 < p.1 ∨ (q.1 = p.1 ∧ q.2 < p.2)) := PySem.W.dataLt_ii ..
    by_cases h : q.1 < p.1 ∨ (q.1 = p.1 ∧ q.2 < p.2)
    · obtain ⟨p', e, m1, l1, l2⟩ := minD_encP ps q
      refine ⟨p', ?_, .inr ?_, by unfold leP at *; omega, fun x hx => ?_⟩
      · rw [← e]
        unfold PySem.W.minD
        rw [List.map_cons, List.foldl_cons, if_pos (by rw [hd]; exact decide_eq_true h)]
      · rcases m1 with rfl | m1
        · exact List.mem_cons_self ..
        · exact List.mem_cons_of_mem _ m1
      · rcases List.mem_cons.mp hx with rfl | hx
        · exact l1
        · exact l2 x hx
    · obtain ⟨p', e, m1, l1, l2⟩ := minD_encP ps p
      refine ⟨p', ?_, ?_, l1, fun x hx => ?_⟩
      · rw [← e]
        unfold PySem.W.minD
        rw [List.map_cons, List.foldl_cons, if_neg (by rw [hd]; simpa using h)]
      · rcases m1 with rfl | m1
        · exact .inl rfl
        · exact .inr (List.mem_cons_of_mem _ m1)
      · rcases List.mem_cons.mp hx with rfl | hx
        · unfold leP at *
          omega
        · exact l2 x hx
theorem minD_is {ps : List (Int × Int)} {p t : Int × Int} (hm : t ∈ p :: ps) (h : ∀ q ∈ p :: ps, leP t q) : PySem.W.minD (encP p) (ps.map encP) = encP t := by
  obtain ⟨p', e, m1, l1, l2⟩ := minD_encP ps p
  rw [e]
  have h1 : leP t p' := h p' (by
    rcases m1 with rfl | m1
    · exact List.mem_cons_self ..
    · exact List.mem_cons_of_mem _ m1)
  have h2 : leP p' t := by
    rcases List.mem_cons.mp hm with rfl | hm
    · exact l1
    · exact l2 t hm
  have : p' = t := by
    unfold leP at h1 h2
    exact Prod.ext (by omega) (by omega)
  rw [this]
theorem alike_encP (ps : List (Int × Int)) : PySem.W.AlikeAll (ps.map encP) := by
  refine ⟨fun x hx y hy => ?_, fun x hx => ?_⟩
  · obtain ⟨p, _, rfl⟩ := List.mem_map.mp hx
    obtain ⟨q, _, rfl⟩ := List.mem_map.mp hy
    simp [encP, PySem.W.alike, PySem.W.alikeAll]
  · obtain ⟨p, _, rfl⟩ := List.mem_map.mp hx
    exact fun e => by cases e
theorem depth_encP : ∀ ps : List (Int × Int), PyData.depthAll (ps.map encP) ≤ 1
  | [] => Nat.zero_le _
  | p :: ps => by
    have h := depth_encP ps
    simp only [List.map_cons, PyData.depthAll, encP, PyData.depth]
    omega
def IiAt (H : Hp) (a : Addr) (p : Int × Int) : Prop := H a = some (.tup [.int p.1, .int p.2])
theorem IiAt.lst {H : Hp} {l : Addr} {ys : List V} {o : HO} (hl : H l = some (.lst ys)) : ∀ a p, IiAt H a p → IiAt (upd H l o) a p := fun _ _ h => tup_past hl h
theorem IiAt.same {H H' : Hp} (k : Same H H') : ∀ a p, IiAt H a p → IiAt H' a p := fun _ _ h => k _ _ h
theorem dp_encP {K : PySem.W.Frag} {H : Hp} : ∀ {rs : List V} {ps : List (Int × Int)}, AllAt (IiAt H) rs ps → DpAll K H rs (ps.map encP)
  | [], [], _ => .nil
  | [], _ :: _, h => nomatch h.1
  | _ :: _, [], h => nomatch h.1
  | r :: rs, p :: ps, h => by
    obtain ⟨a, e, h1⟩ := h.2 0 p rfl
    obtain rfl : r = .ref a := Option.some.inj e
    exact .cons (.tup (SqT.of h1) (.cons (.int _) (.cons (.int _) .nil))) (dp_encP h.tail)
end SL

set_option Elab.async false
set_option linter.all false
set_option maxRecDepth 100000
set_option maxHeartbeats 1000000
/-! Own layer 33: what last_end and the parts of k71 promise. -/
namespace SL
open PySem PySem.Spec PyProof.Rows L2
theorem lenL_push {ns : List Int} {b e : Nat} (h : b < e) (he : e < ns.length) : lenL ns b (e + 1) = lenL ns b e + 1 + nsOf ns e := by
  unfold lenL
  have h1 : (ns.drop b).take (e + 1 - b) = (ns.drop b).take (e - b) ++ [nsOf ns e] := by
    rw [show e + 1 - b = (e - b) + 1 by omega]
    have : (ns.drop b)[e - b]? = some (nsOf ns e) := by
      rw [List.getElem?_drop, show b + (e - b) = e by omega]
      unfold nsOf
      rw [List.getD_eq_getElem?_getD, List.getElem?_eq_getElem he]
      rfl
    exact take_succ this
  rw [h1, List.sum_append, List.sum_cons, List.sum_nil]
  omega
theorem lenL_le {ns : List Int} (hp : ∀ x ∈ ns, 1 ≤ x) {b : Nat} : ∀ {d e : Nat}, b < e → e + d ≤ ns.length → lenL ns b e ≤ lenL ns b (e + d)
  | 0, e, _, _ => Int.le_refl _
  | d + 1, e, h, h2 => by
    have h3 := lenL_le hp (d := d) h (by omega)
    have h4 := lenL_push (ns := ns) (b := b) (e := e + d) (by omega) (by omega)
    have h5 : 1 ≤ nsOf ns (e + d) := by
      unfold nsOf
      rw [List.getD_eq_getElem?_getD, List.getElem?_eq_getElem (show e + d < ns.length by omega)]
      exact hp _ (List.getElem_mem (show e + d < ns.length by omega))
    rw [show e + (d + 1) = e + d + 1 by omega]
    omega
def spLastEnd (K : PySem.W.Frag) : Sp := fun vs H Q _ => ∃ (m : Int) (t : Addr) (ns : List Int) (b : Nat), vs = [.int m, .ref t, natV b] ∧ SqT K H t (ns.map V.int) ∧ b < ns.length ∧ ns.length ≤ 2000 ∧
  ∀ e : Nat, b < e → e ≤ ns.length → (lenL ns b e ≤ m ∨ e = b + 1) → (e < ns.length → m < lenL ns b (e + 1)) → Q (natV e) H
theorem last_end_at {ns : List Int} {m : Int} (hF : Fit m ns) {b e : Nat} (hb : b < ns.length) (h1 : b < e) (h2 : e ≤ ns.length) (h3 : lenL ns b e ≤ m ∨ e = b + 1) (h4 : e < ns.length → m < lenL ns b (e + 1)) : e = ns.length ↔ lenL ns b ns.length ≤ m := by
  constructor
  · rintro rfl
    rcases h3 with h3 | h3
    · exact h3
    · rw [h3, lenL_one hb]
      exact (hF b hb).2
  · intro h
    by_cases q : e = ns.length
    · exact q
    · have h5 := h4 (by omega)
      have h6 := lenL_le (fit_pos hF) (b := b) (e := e + 1) (d := ns.length - (e + 1)) (by omega) (by omega)
      rw [show e + 1 + (ns.length - (e + 1)) = ns.length by omega] at h6
      omega
def spMoved (K : PySem.W.Frag) : Sp := fun vs H Q _ => ∃ (l : Addr) (es : List Nat) (d : Nat), vs = [.ref l, natV d] ∧ SqT K H l (es.map natV) ∧ es.length ≤ 1000 ∧ ∀ H' r, Same H H' → SqT K H' r ((es.map (· + d)).map natV) → Q (.ref r) H'
def spLastRight (K : PySem.W.Frag) : Sp := fun vs H Q _ => ∃ (m : Int) (t : Addr) (ns : List Int), vs = [.int m, .ref t, natV (lB ns m), .int ((cs (nsOf ns) m ns.length).getD (lB ns m) 0)] ∧ SqT K H t (ns.map V.int) ∧ Fit m ns ∧ 1 ≤ m ∧ m ≤ 1000000000 ∧ ns.length ≤ 1000 ∧ 0 < ns.length ∧
  ∀ H', Same H H' → Q (.bl true) H'
def spBestRight (K : PySem.W.Frag) : Sp := fun vs H Q _ => ∃ (p : Addr) (m : Int) (t : Addr) (ns : List Int) (n : Nat), vs = [.ref p, .int m, .ref t] ∧ PotAt H p n ∧ n < 800000 ∧ SqT K H t (ns.map V.int) ∧ Fit m ns ∧ 1 ≤ m ∧ m ≤ 1000000000 ∧ ns.length ≤ 1000 ∧ 0 < ns.length ∧
  ∀ H', Kp p H H' → PotAt H' p (n + 4) → Q (.bl true) H'
theorem atI_two {α : Type} (xs : List α) (v u : α) : atI (xs ++ ([v] ++ [u])) (-2) = some v := by
  have hl : (xs ++ ([v] ++ [u])).length = xs.length + 2 := by simp
  unfold atI ixN
  rw [if_neg (by decide), hl]
  have e : ((-2 : Int) + ((xs.length + 2 : Nat) : Int)).toNat = xs.length := by omega
  by_cases h : -(((xs.length + 2 : Nat)) : Int) ≤ -2
  · rw [if_pos h, e]
    simp
  · omega
theorem tC_as {v u : V} (e : v = u) {σ : L2.St} {H : Hp} {Q : V → Hp → Prop} (h : Q u H) : tC v σ H Q := by
  subst e
  exact h
theorem encP_inj {p q : Int × Int} (h : encP p = encP q) : p = q := by
  unfold encP at h
  injection h with h
  injection h with h1 h
  injection h with h2 _
  injection h1 with h1
  injection h2 with h2
  exact Prod.ext h1 h2
theorem shaped_encP (p : Int × Int) : SeqAt.shaped (encP p) = true := rfl
theorem eqv_encP (p : Int × Int) : PyData.eqv (encP p) (encP p) = true := by
  simp [encP, PyData.eqv, PyData.eqvAll]
/-- the least pair of costs of beginnings -/
theorem last_pairs {ns : List Int} {m : Int} (hF : Fit m ns) (h0 : 0 < ns.length) {low : Nat} (hlow : low < ns.length) (hfit : ∀ b, low ≤ b → b < ns.length → lenL ns b ns.length ≤ m) (hend : low = 0 ∨ m < lenL ns (low - 1) ns.length) :
    ((cs (nsOf ns) m ns.length).getD (lB ns m) 0, -((lB ns m : Nat) : Int)) ∈ (List.range (ns.length - low)).map (fun j => ((cs (nsOf ns) m (low + j)).getD (low + j) 0, -((low + j : Nat) : Int))) ∧
    ∀ q ∈ (List.range (ns.length - low)).map (fun j => ((cs (nsOf ns) m (low + j)).getD (low + j) 0, -((low + j : Nat) : Int))), leP ((cs (nsOf ns) m ns.length).getD (lB ns m) 0, -((lB ns m : Nat) : Int)) q := by
  obtain ⟨l1, l2⟩ := lB_line hF h0
  have hge : low ≤ lB ns m := by
    rcases hend with h | h
    · omega
    · by_cases q : low ≤ lB ns m
      · exact q
      · have := lenL_mono (fit_pos hF) (Nat.le_refl ns.length) (low - 1 - lB ns m) (lB ns m) (by omega)
        rw [show lB ns m + (low - 1 - lB ns m) = low - 1 by omega] at this
        omega
  refine ⟨List.mem_map.mpr ⟨lB ns m - low, List.mem_range.mpr (by omega), ?_⟩, fun q hq => ?_⟩
  · rw [show low + (lB ns m - low) = lB ns m by omega, cs_pre (ns := nsOf ns) (w := m) (b := lB ns m) (m := lB ns m) (n := ns.length) (Nat.le_refl _) (by omega)]
  · obtain ⟨j, hj, rfl⟩ := List.mem_map.mp hq
    have hj := List.mem_range.mp hj
    obtain ⟨q1, q2⟩ := lB_least hF (b := low + j) (by omega) (hfit _ (by omega) (by omega))
    rw [cs_pre (ns := nsOf ns) (w := m) (b := low + j) (m := low + j) (n := ns.length) (Nat.le_refl _) (by omega)] at q1 q2
    unfold leP
    dsimp only
    by_cases e : (cs (nsOf ns) m ns.length).getD (lB ns m) 0 = (cs (nsOf ns) m (low + j)).getD (low + j) 0
    · have := q2 e
      exact .inr ⟨e, by omega⟩
    · exact .inl (by omega)
end SL

set_option Elab.async false
set_option linter.all false
set_option maxRecDepth 100000
set_option maxHeartbeats 1000000
/-! Own layer 34: what parts of best layouts tell. -/
namespace SL
open PySem PySem.Spec PyProof.Rows L2
theorem map_push_int (xs : List Int) (x : Int) : (xs ++ [x]).map V.int = xs.map V.int ++ [.int x] := by rw [List.map_append]; rfl
theorem Pth.prefix {ns : List Int} {m : Int} {e : Nat} {es : List Nat} (h : Pth (fB (nsOf ns) m) e es) {i : Nat} (hi : i ≤ es.length) :
    ∃ d, Pth (fB (nsOf ns) m) d (es.take i) ∧ ((i = 0 ∧ d = 0) ∨ ∃ j, i = j + 1 ∧ es[j]? = some d) := by
  match i with
  | 0 => exact ⟨0, .z, .inl ⟨rfl, rfl⟩⟩
  | j + 1 =>
    have e1 : es[j]? = some es[j] := List.getElem?_eq_getElem (by omega)
    exact ⟨_, h.take e1, .inr ⟨j, rfl, e1⟩⟩
theorem down_up {d : Nat} {l : List Nat} (h : ∀ x ∈ l, d < x) : (l.map (· - d)).map (· + d) = l := by
  rw [List.map_map]
  conv => rhs; rw [← List.map_id l]
  refine List.map_congr_left fun x hx => ?_
  have := h x hx
  show x - d + d = x
  omega
theorem parts_told {ns : List Int} {m : Int} (hF : Fit m ns) (h0 : 0 < ns.length) {es0 : List Nat} (hP : Pth (fB (nsOf ns) m) (lB ns m) es0) {i : Nat} (hi : i < es0.length + 1) :
    ∃ d, d < ns.length ∧ ((i = 0 ∧ d = 0) ∨ ∃ j, i = j + 1 ∧ (es0 ++ [ns.length])[j]? = some d) ∧
      ∀ t, (ns.drop d = [] → t = []) → (0 < (ns.drop d).length → ∃ t0, t = t0 ++ [(ns.drop d).length] ∧ Pth (fB (nsOf (ns.drop d)) m) (lB (ns.drop d) m) t0) →
        t.map (· + d) = (es0 ++ [ns.length]).drop i ∧
        (cs (nsOf ns) m d).getD d 0 + (cs (nsOf (ns.drop d)) m (ns.drop d).length).getD (lB (ns.drop d) m) 0 = (cs (nsOf ns) m ns.length).getD (lB ns m) 0 := by
  obtain ⟨hB, hBc⟩ := best_char hF h0 hP
  obtain ⟨l1, l2⟩ := lB_line hF h0
  obtain ⟨pc, _⟩ := hP.plan hF (n := 0) (by omega)
  obtain ⟨d, hd, hc⟩ := hP.prefix (i := i) (by omega)
  have hdl : d ≤ lB ns m := by
    rcases hc with ⟨_, rfl⟩ | ⟨j, _, e⟩
    · omega
    · exact pc.mem_le d (List.mem_of_getElem? e)
  obtain ⟨qc, qs⟩ := hd.plan hF (n := 0) (by omega)
  have e1 : es0 ++ [ns.length] = es0.take i ++ (es0 ++ [ns.length]).drop i := by
    conv => lhs; rw [← List.take_append_drop i (es0 ++ [ns.length])]
    rw [List.take_append_of_le_length (by omega)]
  have hne : (es0 ++ [ns.length]).drop i ≠ [] := fun z => by
    have := congrArg List.length z
    rw [List.length_drop, List.length_append] at this
    simp at this
    omega
  have hch := hB.1
  rw [e1] at hch
  obtain ⟨mid, h1, h2⟩ := hch.split
  have em : mid = d := by rw [← h1.lastG, qc.lastG]
  subst em
  have e2 := down_up h2.gt
  have ht : ((es0 ++ [ns.length]).drop i).map (· - mid) ≠ [] := fun z => hne (List.map_eq_nil_iff.mp z)
  have hB3 := hB
  rw [e1, ← e2] at hB3
  have hS := best_suffix hB3 h1 ht (by omega)
  refine ⟨mid, by omega, ?_, fun t t1 t2 => ?_⟩
  · rcases hc with hc | ⟨j, e, ej⟩
    · exact .inl hc
    · refine .inr ⟨j, e, ?_⟩
      rw [List.getElem?_append_left (List.getElem?_eq_some_iff.mp ej).1]
      exact ej
  · obtain ⟨b1, b2⟩ := best_told (fit_drop hF mid) t1 t2
    have et := b1.uni hS
    rw [et] at b2
    rw [et, e2]
    refine ⟨rfl, ?_⟩
    rw [← hBc, e1, ← e2, costO_join h1 ht, b2]
    congr 1
    rw [← qs]
    rfl
end SL
namespace SL
open PySem PySem.Spec PyProof.Rows L2
theorem Pth.lastE {f : Nat → Nat} {e : Nat} {es : List Nat} (h : Pth f e es) (h0 : 0 < e) : ∃ es1, es = es1 ++ [e] := by
  cases h with
  | z => omega
  | s hp h => exact ⟨_, rfl⟩
theorem closed_two {ns : List Int} {m : Int} (hF : Fit m ns) (h0 : 0 < ns.length) {es : List Nat} (hP : Pth (fB (nsOf ns) m) ns.length es) :
    ∃ es1 b, es = es1 ++ [ns.length] ∧ b < ns.length ∧ lenL ns b ns.length ≤ m ∧ atI ([V.int 0] ++ es.map natV) (-2) = some (natV b) ∧
      ((prs 0 es).dropLast.map (sq ns m)).sum + (m - lenL ns b ns.length) ^ 2 = (cs (nsOf ns) m ns.length).getD ns.length 0 := by
  obtain ⟨pc, pcost⟩ := hP.plan hF (n := 0) (Nat.le_refl _)
  obtain ⟨es1, rfl⟩ := hP.lastE h0
  obtain ⟨b, h1, h2⟩ := pc.split
  refine ⟨es1, b, rfl, h2.1, h2.2.1, ?_, ?_⟩
  · rw [List.map_append]
    by_cases hne : es1 = []
    · subst hne
      have : (0 : Nat) = b := h1
      subst this
      exact atI_two [] _ _
    · have e := (List.dropLast_concat_getLast hne).symm
      have hb : es1.getLast hne = b := by
        rw [← h1.lastG]
        rw [List.getLast?_eq_getLast hne]
        rfl
      rw [e, hb, List.map_append, ← List.append_assoc, ← List.append_assoc, List.append_assoc _ (List.map natV [b])]
      exact atI_two _ _ _
  · rw [← pcost, prs_app, h1.lastG]
    show (((prs 0 es1 ++ [(b, ns.length)]).dropLast.map (sq ns m)).sum + _ : Int) = ((prs 0 es1 ++ [(b, ns.length)]).map (sq ns m)).sum
    rw [List.dropLast_concat, List.map_append, List.sum_append]
    show _ = _ + ((m - lenL ns b ns.length) ^ 2 + 0)
    omega
end SL

set_option Elab.async false
set_option linter.all false
set_option maxRecDepth 100000
set_option maxHeartbeats 1000000
/-! Own layer 35: sorted(set(t)) of a tuple of ints. -/
namespace SL
open PySem PySem.Spec PyProof.Rows L2
/-- a set that holds the numbers of ns -/
def SetIO (w : World) (a : Addr) (ns : List Int) : HO := .ext fun h => ∃ c, c ≤ ns.length ∧ SetR w h a (fun j => decide (j ∈ ns)) c
theorem setIO_new {P : Program} {w : World} {H : Hp} {h : Heap} {a : Addr} {ns : List Int} {c : Nat} (hc : c ≤ ns.length) (R : SetR w h a (fun j => decide (j ∈ ns)) c) : ObjOk P w H h a (SetIO w a ns) := by
  have ⟨o, es, ep, t, ho, r⟩ := R
  exact ⟨⟨c, hc, R⟩, ⟨o, ho⟩, fun h1 h2 p k => let ⟨c', hc', R'⟩ := p; ⟨c', hc', R'.at k⟩⟩
def rSetI (K : PySem.W.Frag) (w : World) : List V → Hp → VK → Prop := fun vs H Q => ∃ (p : Addr) (ns : List Int), vs = [.ref p] ∧ SqT K H p (ns.map V.int) ∧ ns.length ≤ 4090 ∧
  ∀ a H', H a = none → H' a = some (SetIO w a ns) → Same H H' → Q (.ref a) H'
def rSortSet (w : World) : List V → Hp → VK → Prop := fun vs H Q => ∃ (a : Addr) (ns : List Int), vs = [.ref a] ∧ H a = some (SetIO w a ns) ∧ ns.length ≤ 4090 ∧
  ∀ (ns' : List Int) (p : Addr), ns'.Pairwise (· < ·) → (∀ k, k ∈ ns' ↔ k ∈ ns) → ns'.length ≤ ns.length → ∀ H', H p = none → H' p = some (.lst (ns'.map V.int)) → Same H H' → Q (.ref p) H'
section
variable {X : Cx}
theorem cr_setI (hc : X.calm = true) : CallR X (.type "set") (rSetI X.K X.w) := by
  intro pins s σ H vs us Q I r h
  obtain ⟨p, ns, rfl, hs, hl, q⟩ := h
  rw [Vals.ref1 r]
  obtain ⟨its, rv, pt, hz⟩ := I.tuple hs
  refine call_set_tupI ns (I.ok.hd hc) (show s.heap.IsTuple p its.toArray from pt) (ints_of_vals rv) (by unfold scanBound; omega) fun h' tk c R hcn k => ?_
  exact ⟨.ref s.heap.objs.size, upd H s.heap.objs.size (SetIO X.w s.heap.objs.size ns), I.laid (t' := tk) k (Nat.le_refl _) (setIO_new hcn R), rfl, q _ _ (I.hok.fresh (Nat.le_refl _)) upd_same (Same.new (I.hok.fresh (Nat.le_refl _)))⟩
theorem pair_lt_of {l : List Int} (h1 : l.Pairwise (· ≤ ·)) (h2 : l.Nodup) : l.Pairwise (· < ·) := by
  refine (List.Pairwise.and h1 h2).imp fun {a b} ⟨x, y⟩ => ?_
  have : a ≠ b := y
  omega
theorem cr_sortSet (hc : X.calm = true) : CallR X (.builtin "sorted") (rSortSet X.w) := by
  intro pins s σ H vs us Q I r h
  obtain ⟨a, ns, rfl, ha, hl, q⟩ := h
  rw [Vals.ref1 r]
  obtain ⟨c, hcn, o, es, ep, t, ho, hex, hdt, g, nd, hm2, hb, hf, hn, hr, hl2⟩ := (I.hok a _ ha).1
  have hh := I.ok.hd hc
  refine Calls.call_function_entry kind_sorted plain_sorted entry_sorted (args_sorted1 _) ?_
  unfold Builtin.«sorted»
  refine wpAny_bind (m := checkCount "sorted" 1 1 _) (wpAny_pure ?_)
  refine wpAny_bind (collect_set (A := X.A.in1) hh ⟨o, ho, hex.1, hdt⟩ hf hb hr hl2 fun s1 vs k1 hz g1 o1 pm => ?_)
  have hvl : vs.length ≤ sizeLine := by
    rw [pm.length_eq, List.length_map, Array.length_toList, hn, sizeLine_eq]
    omega
  have hv : ∀ v ∈ vs, ∃ i t, v = Value.int i t := fun v hv => by
    obtain ⟨e, he, ev⟩ := List.mem_map.mp (pm.mem_iff.mp hv)
    obtain ⟨kk, tt, e2, _⟩ := g e he
    exact ⟨kk, tt, ev.symm.trans e2⟩
  have hi := SrtO.ints_iv hv
  have hpk : (vs.map SrtO.iv).Perm (es.toList.map keyOf) := by
    have z := pm.map SrtO.iv
    rw [List.map_map] at z
    have ee : es.toList.map (SrtO.iv ∘ fun x => x.2) = es.toList.map keyOf := List.map_congr_left fun e he => by
      obtain ⟨kk, tt, e2, e3⟩ := g e he
      show SrtO.iv e.2 = keyOf e
      rw [key_vInt, e2]
      rfl
    rw [ee] at z
    exact z
  refine wpAny_bind (wpAny_newList ?_ hvl)
  have hoL : (s1.heap.push (seqObj "list" vs.toArray 0)).get? s1.heap.objs.size = some (seqObj "list" vs.toArray 0) := Heap.get?_push_size _ rfl
  refine wpAny_bind (wpAny_holding (wpAny_call_entry slot_list_sort ⟨_, hoL, rfl⟩ entry_list_sort
    (SrtO.list_sort_ord SrtO.swo_int (s := { s1 with heap := s1.heap.push (seqObj "list" vs.toArray 0) }) hoL hvl (fun h2 => SrtO.ints_sortable hi h2) fun out h1 h2 => ⟨_, rfl, ?_⟩) (args_list_sort _)))
  obtain ⟨k1', k2, k3⟩ := SrtO.ints_out hi h1 h2
  obtain ⟨ep2, he'⟩ := sortedHeap_at (vs := vs) (out := out.toArray) hoL
  have keep : ∀ b u, s.heap.get? b = some u → (sortedHeap (s1.heap.push (seqObj "list" vs.toArray 0)) s1.heap.objs.size vs out.toArray).get? b = some u := fun b u e => by
    have q := k1 b u e
    have hlt := Heap.lt_size q
    rw [sortedHeap_old (Nat.ne_of_lt hlt) (by rw [size_push']; exact Nat.lt_succ_of_lt hlt)]
    exact Heap.get?_push_of_some _ q
  have hnf : H s1.heap.objs.size = none := I.hok.fresh hz
  have hp2 : (out.map SrtO.iv).Perm (es.toList.map keyOf) := k2.trans hpk
  have hol : (out.map SrtO.iv).length = c := by rw [hp2.length_eq, List.length_map, Array.length_toList, hn]
  have J : Inv X pins σ (upd H s1.heap.objs.size (.lst ((out.map SrtO.iv).map V.int))) { s with heap := sortedHeap (s1.heap.push (seqObj "list" vs.toArray 0)) s1.heap.objs.size vs out.toArray, gens := s1.gens, drawn := s1.drawn, toks := s1.toks } :=
    I.call (ch := []) (Un.laid keep hz hnf) (I.hok.laid keep hz ⟨by rw [List.length_map, hol, sizeLine_eq]; omega, out, ep2, vals_of_ints k1', he'⟩) (by rw [g1]; exact I.bare) (fun _ z => nomatch z)
  refine wpAny_pure ⟨_, rfl, ?_⟩
  have e : ({ s1 with heap := sortedHeap (s1.heap.push (seqObj "list" vs.toArray 0)) s1.heap.objs.size vs out.toArray } : Shared) = { s with heap := sortedHeap (s1.heap.push (seqObj "list" vs.toArray 0)) s1.heap.objs.size vs out.toArray, gens := s1.gens, drawn := s1.drawn, toks := s1.toks } := by
    cases s1
    cases s
    cases o1
    rfl
  show EP X pins σ Q (.ref s1.heap.objs.size) { s1 with heap := sortedHeap (s1.heap.push (seqObj "list" vs.toArray 0)) s1.heap.objs.size vs out.toArray }
  rw [e]
  refine ⟨.ref _, _, J, rfl, q _ _ (pair_lt_of k3 (hp2.nodup_iff.mpr nd)) (fun k => ?_) (by omega) _ hnf upd_same (Same.new hnf)⟩
  rw [hp2.mem_iff, ← hm2 k, decide_eq_true_eq]
def rGtD (K : PySem.W.Frag) : R2 := fun x y H Q => ∃ d e, Dp K H x d ∧ Dp K H y e ∧ PySem.W.alike d e = true ∧ d ≠ .none ∧ d.depth ≤ 40 ∧ Q (.bl (PySem.W.dataLt e d)) H
theorem op_gtD (hu : X.A.units + 64 < cLine) : OpR X (compareOp .Gt) (rGtD X.K) := by
  intro pins s σ H x y v u Q I rx ry h
  obtain ⟨d, e, hd, he, ha, hn, hp, q⟩ := h
  obtain ⟨as, r1⟩ := Dp.reads I d x v hd rx
  obtain ⟨bs, r2⟩ := Dp.reads I e y u he ry
  exact PySem.W.gt_data r1 r2 ha hn (by omega) ⟨.bl _, H, I, rfl, q⟩
end
theorem alike_tup (a b : List Nat) : PySem.W.alike (tupD a) (tupD b) = true := by
  rw [tupD_eq, tupD_eq]
  exact PySem.W.alike_ints _ _
theorem depth_tup (a : List Nat) : (tupD a).depth ≤ 40 := by
  have := (can_ints a).2
  unfold tupD
  simp only [PyData.depth]
  omega
/-- a tuple of the numbers ks -/
def RwAt (K : PySem.W.Frag) (H : Hp) (a : Addr) (ks : List Int) : Prop := SqT K H a (ks.map V.int)
/-- is_layout of a tuple of numbers -/
def spIsLayI (K : PySem.W.Frag) : Sp := fun vs H Q _ => ∃ (m : Int) (t l : Addr) (ns ks : List Int), vs = [.int m, .ref t, .ref l] ∧ SqT K H t (ns.map V.int) ∧ SqT K H l (ks.map V.int) ∧ ns.length ≤ 1000 ∧
  ∀ H' b, Same H H' → (b = true → ∃ es : List Nat, ks = es.map (fun n : Nat => (n : Int)) ∧ Chain ns m 0 es ns.length) → Q (.bl b) H'
/-- what _law_near answers: tuples of numbers -/
def spNear (K : PySem.W.Frag) : Sp := fun vs H Q _ => ∃ (p l : Addr) (ks : List Int) (c n : Nat), vs = [.ref p, .ref l, natV c] ∧ PotAt H p n ∧ n < 900000 ∧ SqT K H l (ks.map V.int) ∧ ks ≠ [] ∧ ks.length ≤ 400 ∧
  ∀ H' r rs kss, Kp p H H' → PotAt H' p (n + 1) → H' r = some (.lst rs) → AllAt (RwAt K H') rs kss → rs.length ≤ 13 → (∀ k ∈ kss, k.length ≤ 401) → Q (.ref r) H'
theorem RwAt.same {K : PySem.W.Frag} {H H' : Hp} (h : Same H H') : ∀ a p, RwAt K H a p → RwAt K H' a p := fun _ _ k => Same.tup h k
theorem RwAt.lst {K : PySem.W.Frag} {H : Hp} {l : Addr} {ys : List V} {o : HO} (hl : H l = some (.lst ys)) : ∀ a p, RwAt K H a p → RwAt K (upd H l o) a p := fun _ _ k => sqT_past hl k
theorem ints_get {ks : List Int} {i : Nat} {x : V} (h : (ks.map V.int)[i]? = some x) : ∃ k : Int, x = .int k ∧ ks[i]? = some k ∧ k ∈ ks := by
  rw [List.getElem?_map] at h
  match e : ks[i]? with
  | none => rw [e] at h; cases h
  | some k =>
    rw [e] at h
    exact ⟨k, (Option.some.inj h).symm, rfl, List.mem_of_getElem? e⟩
end SL

set_option Elab.async false
set_option linter.all false
set_option maxRecDepth 100000
set_option maxHeartbeats 1000000
/-! Own layer 36: «if» in a generator's body. -/
namespace SL
open PySem PySem.Spec PyProof.Rows L2 GenW
section
variable {X : Cx}
def tGIf (c : TT) (t u : TGn) : TGn := fun D ys σ H => c σ H fun b H1 => if b = true then t D ys σ H1 else u D ys σ H1
theorem gs_if {e : Expr} {a b : List Stmt} {pos : Pos} {tc : TT} {t u : TGn} (hc : PT X e tc) (ha : GSs X a t) (hb : GSs X b u) : GS X (.If e a b pos) (tGIf tc t u) := by
  refine ⟨fun A S ip R n ys s₀ c fs K J gd lv s σ H D g hn k hI ht => ?_⟩
  obtain ⟨acc, cc, r, I⟩ := hI
  refine seg_at ?_
  show Seg _ _ _ _ n s₀ c ((isTrue e X.env (eval e X.env) >>= fun d => if d = true then execs a X.env else execs b X.env).wrap K J gd lv) fs s
  refine seg_bind_wrap ?_
  rw [g.over]
  refine wpAny_mono (hc.run _ s σ H _ I ht) (fun d s' hd => ?_) fun x s' hx => k.exc n s₀ x s' hx
  obtain ⟨H1, I1, q⟩ := hd
  cases d with
  | true => exact ha.run A S ip R n ys s₀ c fs K J gd lv s' σ H1 D g hn k ⟨acc, cc, r, I1⟩ q
  | false => exact hb.run A S ip R n ys s₀ c fs K J gd lv s' σ H1 D g hn k ⟨acc, cc, r, I1⟩ q
end
end SL

set_option Elab.async false
set_option linter.all false
set_option maxRecDepth 100000
set_option maxHeartbeats 1000000
/-! Own layer 37: promises of defs whatever the guards (a generator's frame says nothing of them). The names are those of the promises where no repr is under way, in a namespace of their own. -/
namespace SLO
open PySem PySem.Spec PyProof.Rows L2
structure Def (P : Program) (w : World) (K : PySem.W.Frag) (mg : Str → Option Value) (base : Heap) (CX : CXT) (k : Nat) (x : Str) (st : Stmt) (ps : List Str) (sp : Sp) : Prop where
  ex : ∃ f fd, Fun K x x st f fd ∧ mg x = some (.ref f) ∧ FnOk P w K mg base CX k f fd ps sp
structure MDef (P : Program) (w : World) (K : PySem.W.Frag) (mg : Str → Option Value) (base : Heap) (CX : CXT) (k : Nat) (C : Addr) (m qual : Str) (st : Stmt) (ps : List Str) (sp : Sp) : Prop where
  ex : ∃ f fd, Fun K m qual st f fd ∧ Meth K C m f ∧ FnOk P w K mg base CX k f fd ps sp
structure IDef (P : Program) (w : World) (K : PySem.W.Frag) (mg : Str → Option Value) (base : Heap) (CX : CXT) (k : Nat) (C : Addr) (qual : Str) (st : Stmt) (ps : List Str) (sp : Sp) : Prop where
  ex : ∃ f fd, Fun K "__init__" qual st f fd ∧ Mk K C f ∧ FnOk P w K mg base CX k f fd ps sp
section
variable {P : Program} {w : World} {K : PySem.W.Frag} {mg : Str → Option Value} {base : Heap}
theorem okG0 {x qual : Str} {st : Stmt} {f : Addr} {fd : FuncData} {N ps : List Str} {k : Nat} {sp : Sp} (F : Fun K x qual st f fd) (S : FnScope N ps (defScope st)) (len : ∀ vs H Q E, sp vs H Q E → vs.length = ps.length)
    (hbody : ∀ (cdv : Value) (A : Around) (outer : List Env) (s : Shared) (H : Hp) (vs : List V) (Q : VK) (E : XK), True → Room k (A.deeper (envOfC qual (defScope st) s.heap.objs.size f cdv)) → sp vs H Q E →
      ∃ t, PSs (cxOf CX0 P w K mg base N qual (defScope st) f cdv A outer s H E).nox (defBody st) t ∧ t { nx := fun _ H' => Q .non H', rt := Q } (start N vs) H) : FnOk P w K mg base CX0 (k + 1) f fd ps sp :=
  SL.okF0 F S len fun cdv A o s H vs Q E hr h => hbody cdv A o s H vs Q E trivial hr h
end
section
variable {X : Cx} {CX : CXT} {k : Nat} {st : Stmt} {ps ks : List Str} {sp : Sp} {E : XK} {x : Str} {p pos apos : Pos} {e o : Expr} {es : List Expr} {kws : List Keyword} {ta : TE} {t tk : TA} {C : Addr} {m qual : Str}
theorem run_fnO {f : Addr} {fd : FuncData} {pins : List (Addr × Obj)} {σ : L2.St} {H : Hp} {s : Shared} {Q : VK} {args : Args} {us : List Value} {vs : List V} (F : FnOk X.prog X.w X.K X.mg X.base CX k f fd ps sp) (hr : Room k X.A) (hx : Passes CX X E)
    (hb : BindsTo s fd args (ps.zip us)) (I : Inv X pins σ H s) (r : Vals vs us) (h : sp vs H Q E) : wpAny (model X.prog X.w) X.A (call (.ref f) args.pos args.kw) (EP X pins σ Q) X.xe s := by
  refine wpAny_call (codeAny_mono (F.run X.A X.stack s H args us vs Q E hr I.env0 hb r h) fun a s' hq => ?_)
  match a, hq with
  | .error e, hq => exact hx pins σ H s e s' I hq
  | .ok (.ret u), hq => exact I.after hq
  | .ok .next, hq => exact False.elim hq
  | .ok .brk, hq => exact False.elim hq
  | .ok .cont, hq => exact False.elim hq
theorem pe_callG (D : Def X.prog X.w X.K X.mg X.base CX k x st ps sp) (hg : True) (hr : Room k X.A) (hgl : Gl X x) (hx : Passes CX X E)
    (hbind : ∀ (kV doc pm : Value) (an : Option Addr) (cdv ct : Value) (us : List Value), us.length = ps.length → bindArgs (PySem.W.fnOf x x (defArgs st) (defBody st) (defScope st) .none kV doc pm an cdv ct) ⟨us, []⟩ = pure (ps.zip us))
    (ha : PA X (e :: es) t) (hdb : (x == ("__debug__" : Str)) = false := by decide) (he : starEach (e :: es) X.env = (false, eval e X.env) :: starEach es X.env := by rfl) (hpl : (backTo pos (starEach es X.env)).any (·.1) = false := by rfl) :
    PE X (.Call (.Name x p) (e :: es) [] pos) (SL.tCallG sp E t) := by
  obtain ⟨f, fd, F, hm, G⟩ := D.ex
  refine ⟨fun pins s σ H Q I h => wpAny_Call_Name_kw (ld_glob I hgl hm ?_ hdb)⟩
  refine PySem.W.callWith_K (h₀ := X.base) I.ok.mod.kin F.kp (thn (ha.run pos pins s σ H _ I h) fun us s1 ⟨vs, H1, I1, r, q⟩ => ⟨I1.kIn, ?_⟩) he hpl
  have hl : us.length = ps.length := r.length.symm.trans (G.len _ _ _ _ q)
  obtain ⟨oc, od, kV, doc, pm, an, cdv, ct, osl, rfl, lk, hcd⟩ := F.ex
  exact run_fnO (args := ⟨us, []⟩) G hr hx (.of_eq (hbind kV doc pm an cdv ct us hl)) I1 r q
theorem pe_methG {pl : Sem Bool} (he : PE X o ta) (c : Cls X.K C) (D : MDef X.prog X.w X.K X.mg X.base CX k C m qual st ps sp) (hg : True) (hr : Room k X.A) (hx : Passes CX X E)
    (hbind : ∀ (kV doc pm : Value) (an : Option Addr) (cdv ct : Value) (us : List Value), us.length = ps.length → bindArgs (PySem.W.fnOf m qual (defArgs st) (defBody st) (defScope st) .none kV doc pm an cdv ct) ⟨us, []⟩ = pure (ps.zip us)) (ha : PA X (e :: es) t)
    (hst : starEach (e :: es) X.env = (false, eval e X.env) :: starEach es X.env := by rfl) (hpl : (backTo pos (starEach es X.env)).any (·.1) = false := by rfl)
    (ht : eval (.Call (.Attribute o m apos) (e :: es) [] pos) X.env = (do
      let ov ← eval o X.env
      standAt apos.atName
      let (f, first) ← holding [ov] (getMethod ov m pl)
      callWith pos f first (backTo pos (starEach (e :: es) X.env)) (backToKw pos (keywordEach [] X.env))) := by rfl) :
    PE X (.Call (.Attribute o m apos) (e :: es) [] pos) (SL.tMethG C m sp E ta t) := by
  obtain ⟨f, fd, F, hm, G⟩ := D.ex
  refine ⟨fun pins s σ H Q I h => ?_⟩
  refine PySem.W.methodCall_KW (pl := pl) (thn (he.run pins s σ H _ I h) fun u s1 ⟨x, H1, I1, rx, a, dx, fs, ex, ea, l, q⟩ => ?_) ht
  subst ex
  obtain rfl : u = Value.ref a := rx
  refine getmeth_ok I1 ea c hm l ?_
  refine PySem.W.callWith_K (first := [.ref a]) (h₀ := X.base) I.ok.mod.kin hm.kp (thn (ha.run pos pins s1 σ H1 _ I1 q) fun us s2 ⟨vs, H2, I2, r, q2⟩ => ⟨I2.kIn, ?_⟩) hst hpl
  have r2 : Vals (V.ref a :: vs) (Value.ref a :: us) := .cons rfl r
  have hl : (Value.ref a :: us).length = ps.length := r2.length.symm.trans (G.len _ _ _ _ q2)
  obtain ⟨oc, od, kV, doc, pm, an, cdv, ct, osl, rfl, lk, hcd⟩ := F.ex
  exact run_fnO (args := ⟨Value.ref a :: us, []⟩) G hr hx (.of_eq (hbind kV doc pm an cdv ct _ hl)) I2 r2 q2
theorem pe_makeG (D : IDef X.prog X.w X.K X.mg X.base CX k C qual st ps sp) (hg0 : True) (hr : Room (k + 1) X.A) (hg : Gl X x) (hm : X.mg x = some (.ref C)) (hx : Passes CX X E)
    (hbind : ∀ (kV doc pm : Value) (an : Option Addr) (cdv ct : Value) (us : List Value), us.length = ps.length → bindArgs (PySem.W.fnOf "__init__" qual (defArgs st) (defBody st) (defScope st) .none kV doc pm an cdv ct) ⟨us, []⟩ = pure (ps.zip us))
    (ha : PA X (e :: es) t) (hdb : (x == ("__debug__" : Str)) = false := by decide) (he : starEach (e :: es) X.env = (false, eval e X.env) :: starEach es X.env := by rfl) (hpl : (backTo pos (starEach es X.env)).any (·.1) = false := by rfl) :
    PE X (.Call (.Name x p) (e :: es) [] pos) (SL.tMakeG C sp E t) := by
  obtain ⟨f, fd, F0, M, G⟩ := D.ex
  refine ⟨fun pins s σ H Q I h => ?_⟩
  refine wpAny_Call_Name_kw (ld_glob I hg hm ?_ hdb)
  refine PySem.W.callWith_K (h₀ := X.base) I.ok.mod.kin M.kp (thn (ha.run pos pins s σ H _ I h) fun us s1 ⟨vs, H1, I1, r, q⟩ => ⟨I1.kIn, ?_⟩) he hpl
  show wpAny _ _ (call (.ref C) us) _ _ _
  have hq := q (s1.heap.objs.size + 1) s1.heap.objs.size (I1.hok.fresh (Nat.le_succ _)) (I1.hok.fresh (Nat.le_refl _)) (Nat.ne_of_lt (Nat.lt_succ_self _))
  have I2 := Inv.made (C := C) I1
  have r2 : Vals (V.ref (s1.heap.objs.size + 1) :: vs) (Value.ref (s1.heap.objs.size + 1) :: us) := .cons rfl r
  have hl : (Value.ref (s1.heap.objs.size + 1) :: us).length = ps.length := r2.length.symm.trans (G.len _ _ _ _ hq)
  obtain ⟨oc, od, kV, doc, pm, an, cdv, ct, osl, rfl, lk, hcd⟩ := F0.ex
  refine wpAny_call (make_map (f := f) I1.kIn M.makes M.init (beq_iff_eq.mp M.fn) (codeAny_mono (G.run _ X.stack _ _ ⟨Value.ref (s1.heap.objs.size + 1) :: us, []⟩ (Value.ref (s1.heap.objs.size + 1) :: us) _ _ E (hr.make C us [])
    (I2.env0.make C us []) (.of_eq (hbind kV doc pm an cdv ct _ hl)) r2 hq) fun r s' hq' => ?_))
  cases r with
  | error e => exact hx pins σ _ _ e s' I2 hq'
  | ok fl =>
    cases fl with
    | ret u =>
      obtain ⟨v, H', I3, rv, ev, q3⟩ := I2.after hq'
      subst ev
      exact ⟨rv, ⟨V.ref (s1.heap.objs.size + 1), H', I3, rfl, q3⟩⟩
    | next => exact False.elim hq'
    | brk => exact False.elim hq'
    | cont => exact False.elim hq'
end
end SLO

set_option Elab.async false
set_option linter.all false
set_option maxRecDepth 100000
set_option maxHeartbeats 1000000
/-! Own layer 38: all best layouts, in their order. -/
namespace SL
open PySem PySem.Spec PyProof.Rows L2
/-- where the last line of a cheapest closed layout of the first e words may begin, the latest first -/
def bB (ns : List Int) (m : Int) : Nat → List Nat
  | 0 => []
  | e + 1 => cheap (rate (cs (nsOf ns) m e) (linesF (nsOf ns) (e + 1) (m + 1)))
/-- the cheapest closed layouts of the first e words, the latest first -/
def paths (ns : List Int) (m : Int) : Nat → Nat → List (List Nat)
  | _, 0 => [[]]
  | 0, _ + 1 => []
  | k + 1, e + 1 => (bB ns m (e + 1)).flatMap fun b => (paths ns m k b).map (· ++ [e + 1])
def bests (ns : List Int) (m : Int) : List (List Nat) :=
  if ns.length = 0 then [[]] else (lastB (nsOf ns) m ns.length).flatMap fun b => (paths ns m b b).map (· ++ [ns.length])
theorem cheap_iff {g : Nat × Int → Int} {ls : List (Nat × Int)} {b : Nat} : b ∈ cheap (ls.map fun p => (g p, p.1)) ↔ ∃ p ∈ ls, p.1 = b ∧ g p = least (ls.map fun p => (g p, p.1)) := by
  unfold cheap
  constructor
  · intro h
    obtain ⟨x, hx, rfl⟩ := List.mem_map.mp h
    obtain ⟨h1, h2⟩ := List.mem_filter.mp hx
    obtain ⟨p, hp, rfl⟩ := List.mem_map.mp h1
    exact ⟨p, hp, rfl, of_decide_eq_true h2⟩
  · rintro ⟨p, hp, rfl, h⟩
    exact List.mem_map.mpr ⟨(g p, p.1), List.mem_filter.mpr ⟨List.mem_map.mpr ⟨p, hp, rfl⟩, decide_eq_true h⟩, rfl⟩
theorem cheap_desc {g : Nat × Int → Int} {ls : List (Nat × Int)} (h : ls.Pairwise (fun p q => q.1 < p.1)) : (cheap (ls.map fun p => (g p, p.1))).Pairwise (· > ·) := by
  unfold cheap
  rw [List.pairwise_map]
  exact (List.pairwise_map.mpr h : (ls.map fun p => (g p, p.1)).Pairwise fun x y => y.2 < x.2).sublist List.filter_sublist
theorem bB_desc (ns : List Int) (m : Int) : ∀ e, (bB ns m e).Pairwise (· > ·)
  | 0 => List.Pairwise.nil
  | e + 1 => cheap_desc linesF_desc.1
theorem bB_lt {ns : List Int} {m : Int} : ∀ {e b : Nat}, b ∈ bB ns m e → b < e
  | 0, b, h => nomatch h
  | e + 1, b, h => by
    obtain ⟨p, hp, rfl, _⟩ := cheap_iff.mp h
    exact linesF_desc.2 p hp
theorem lastB_desc (ns : List Int) (m : Int) : (lastB (nsOf ns) m ns.length).Pairwise (· > ·) := cheap_desc linesF_desc.1
theorem lastB_lt {ns : List Int} {m : Int} {b : Nat} (h : b ∈ lastB (nsOf ns) m ns.length) : b < ns.length := by
  obtain ⟨p, hp, rfl, _⟩ := cheap_iff.mp h
  exact linesF_desc.2 p hp
theorem flatMap_cong {α β : Type} {f g : α → List β} : ∀ {l : List α}, (∀ x ∈ l, f x = g x) → l.flatMap f = l.flatMap g
  | [], _ => rfl
  | x :: l, h => by
    rw [List.flatMap_cons, List.flatMap_cons, h x (List.mem_cons_self ..), flatMap_cong fun y hy => h y (List.mem_cons_of_mem _ hy)]
theorem paths_fuel {ns : List Int} {m : Int} : ∀ (k e : Nat), e ≤ k → paths ns m k e = paths ns m e e
  | 0, 0, _ => rfl
  | _ + 1, 0, _ => rfl
  | k + 1, e + 1, h => by
    show (bB ns m (e + 1)).flatMap (fun b => (paths ns m k b).map (· ++ [e + 1])) = (bB ns m (e + 1)).flatMap (fun b => (paths ns m e b).map (· ++ [e + 1]))
    refine flatMap_cong fun b hb => ?_
    have := bB_lt hb
    rw [paths_fuel k b (by omega), paths_fuel e b (by omega)]
  termination_by k => k
theorem paths_succ (ns : List Int) (m : Int) (e : Nat) : paths ns m (e + 1) (e + 1) = (bB ns m (e + 1)).flatMap fun b => (paths ns m b b).map (· ++ [e + 1]) := by
  show (bB ns m (e + 1)).flatMap (fun b => (paths ns m e b).map (· ++ [e + 1])) = _
  refine flatMap_cong fun b hb => ?_
  have := bB_lt hb
  rw [paths_fuel e b (by omega)]
theorem mem_step {P : Nat → List (List Nat)} {bs : List Nat} {e : Nat} {es : List Nat} : es ∈ bs.flatMap (fun b => (P b).map (· ++ [e])) ↔ ∃ b ∈ bs, ∃ es1 ∈ P b, es = es1 ++ [e] := by
  simp only [List.mem_flatMap, List.mem_map]
  constructor
  · rintro ⟨b, hb, es1, h1, rfl⟩
    exact ⟨b, hb, es1, h1, rfl⟩
  · rintro ⟨b, hb, es1, h1, rfl⟩
    exact ⟨b, hb, es1, h1, rfl⟩
/-- the paths are the cheapest closed layouts -/
theorem paths_mem {ns : List Int} {m : Int} (hF : Fit m ns) : ∀ (e : Nat), e ≤ ns.length → ∀ es, es ∈ paths ns m e e ↔ Chain ns m 0 es e ∧ costF ns m es = (cs (nsOf ns) m e).getD e 0 := by
  intro e
  induction e using Nat.strongRecOn with
  | ind e ih =>
    intro he es
    match e, ih, he with
    | 0, _, _ =>
      show es ∈ [[]] ↔ _
      rw [List.mem_singleton]
      constructor
      · rintro rfl
        exact ⟨rfl, rfl⟩
      · rintro ⟨h, _⟩
        have := h.len
        exact List.eq_nil_of_length_eq_zero (by omega)
    | d + 1, ih, he =>
      rw [paths_succ, mem_step]
      constructor
      · rintro ⟨b, hb, es1, h1, rfl⟩
        obtain ⟨p, hp, rfl, hpl⟩ := cheap_iff.mp hb
        have hlt := linesF_desc.2 p hp
        have hg := line_gap (m := m) he p hp
        obtain ⟨_, q2, q3⟩ := linesF_mem (hF.pos he) hp
        obtain ⟨c1, c2⟩ := (ih p.1 hlt (by omega) es1).mp h1
        refine ⟨c1.join ⟨hlt, by omega, rfl⟩, ?_⟩
        rw [costF_push c1, c2, cs_at (Nat.le_refl _), ← hg, ← cs_pre (ns := nsOf ns) (w := m) (b := p.1) (m := p.1) (n := d) (Nat.le_refl _) (by omega)]
        exact hpl
      · rintro ⟨hc, hcost⟩
        have h0 : es ≠ [] := fun z => by
          subst z
          have : 0 = d + 1 := hc
          omega
        obtain ⟨es1, x, rfl⟩ : ∃ es1 x, es = es1 ++ [x] := ⟨es.dropLast, es.getLast h0, (List.dropLast_concat_getLast h0).symm⟩
        obtain ⟨rfl, b, hb, hlt, hle⟩ := hc.pop
        have hin := line_in (fit_pos hF) he hle (k := d + 1) (f := m + 1) hlt (Nat.le_refl _) (fun h => by omega) (fun _ => rfl)
        have hne : rate (cs (nsOf ns) m d) (linesF (nsOf ns) (d + 1) (m + 1)) ≠ [] := fun z => by
          rw [rate_nil.mp z] at hin
          cases hin
        have hmin := (least_spec hne).2 _ (List.mem_map.mpr ⟨_, hin, rfl⟩)
        dsimp only at hmin
        have ho := opt hF _ es1 b (Nat.le_refl _) hb (by omega)
        rw [costF_push hb, cs_at (Nat.le_refl _)] at hcost
        have hcp := cs_pre (ns := nsOf ns) (w := m) (b := b) (m := b) (n := d) (Nat.le_refl _) (by omega)
        rw [hcp] at hmin
        have ho : (cs (nsOf ns) m b).getD b 0 ≤ costF ns m es1 := ho
        have e1 : costF ns m es1 = (cs (nsOf ns) m b).getD b 0 := by omega
        refine ⟨b, cheap_iff.mpr ⟨_, hin, rfl, ?_⟩, es1, (ih b hlt (by omega) es1).mpr ⟨hb, e1⟩, rfl⟩
        show (cs (nsOf ns) m d).getD b 0 + (m - lenL ns b (d + 1)) ^ 2 = least (rate (cs (nsOf ns) m d) (linesF (nsOf ns) (d + 1) (m + 1)))
        rw [hcp]
        omega
/-- all best layouts -/
theorem bests_mem {ns : List Int} {m : Int} (hF : Fit m ns) (es : List Nat) : es ∈ bests ns m ↔ Chain ns m 0 es ns.length ∧ costO ns m es = (cs (nsOf ns) m ns.length).getD (lB ns m) 0 := by
  unfold bests
  by_cases h0 : ns.length = 0
  · rw [if_pos h0, List.mem_singleton]
    obtain rfl : ns = [] := List.eq_nil_of_length_eq_zero h0
    constructor
    · rintro rfl
      exact ⟨rfl, rfl⟩
    · rintro ⟨h, _⟩
      have := h.len
      exact List.eq_nil_of_length_eq_zero (by simpa using this)
  · rw [if_neg h0, mem_step]
    have h0 : 0 < ns.length := by omega
    obtain ⟨l1, l2⟩ := lB_line hF h0
    have hleast : least (rate0 (cs (nsOf ns) m ns.length) (linesF (nsOf ns) ns.length (m + 1))) = (cs (nsOf ns) m ns.length).getD (lB ns m) 0 := by
      obtain ⟨e, he⟩ : ∃ e, ns.length = e + 1 := ⟨ns.length - 1, by omega⟩
      have hL1 : nsOf ns e < m + 1 := by have := (hF e (by omega)).2; omega
      have hne : linesF (nsOf ns) ns.length (m + 1) ≠ [] := by rw [he]; exact linesF_ne hL1
      obtain ⟨x, hx, h1, h2⟩ := hd_mem (rs := rate0 (cs (nsOf ns) m ns.length) (linesF (nsOf ns) ns.length (m + 1))) (fun z => hne (rate0_nil.mp z))
      obtain ⟨p, hp, rfl⟩ := List.mem_map.mp hx
      have h1 : p.1 = lB ns m := h1
      have h2 : (cs (nsOf ns) m ns.length).getD p.1 0 = _ := h2
      rw [← h2, h1]
    have costO_push : ∀ {es1 : List Nat} {b : Nat}, Chain ns m 0 es1 b → costO ns m (es1 ++ [ns.length]) = costF ns m es1 := fun {es1 b} hc => by
      unfold costO costF
      rw [prs_app, hc.lastG]
      show ((prs 0 es1 ++ [(b, ns.length)]).dropLast.map (sq ns m)).sum = _
      rw [List.dropLast_concat]
    constructor
    · rintro ⟨b, hb, es1, h1, rfl⟩
      obtain ⟨p, hp, rfl, hpl⟩ := cheap_iff.mp hb
      have hlt := linesF_desc.2 p hp
      have hg := line_gap (m := m) (Nat.le_refl _) p hp
      obtain ⟨_, q2, _⟩ := linesF_mem (hF.pos (Nat.le_refl _)) hp
      obtain ⟨c1, c2⟩ := (paths_mem hF p.1 (by omega) es1).mp h1
      refine ⟨c1.join ⟨hlt, by omega, rfl⟩, ?_⟩
      rw [costO_push c1, c2, ← hleast]
      have hpl : (cs (nsOf ns) m ns.length).getD p.1 0 = least (rate0 (cs (nsOf ns) m ns.length) (linesF (nsOf ns) ns.length (m + 1))) := hpl
      rw [← hpl, cs_pre (ns := nsOf ns) (w := m) (b := p.1) (m := p.1) (n := ns.length) (Nat.le_refl _) (by omega)]
    · rintro ⟨hc, hcost⟩
      have h0' : es ≠ [] := fun z => by
        subst z
        have : 0 = ns.length := hc
        omega
      obtain ⟨es1, x, rfl⟩ : ∃ es1 x, es = es1 ++ [x] := ⟨es.dropLast, es.getLast h0', (List.dropLast_concat_getLast h0').symm⟩
      obtain ⟨rfl, b, hb, hlt, hle⟩ := hc.pop
      have hin := line_in (fit_pos hF) (Nat.le_refl _) hle (k := ns.length) (f := m + 1) hlt (Nat.le_refl _) (fun h => by omega) (fun _ => rfl)
      rw [costO_push hb] at hcost
      have ho : (cs (nsOf ns) m b).getD b 0 ≤ costF ns m es1 := opt hF _ es1 b (Nat.le_refl _) hb (by omega)
      have hl := (lB_least hF hlt hle).1
      have hcp := cs_pre (ns := nsOf ns) (w := m) (b := b) (m := b) (n := ns.length) (Nat.le_refl _) (by omega)
      rw [hcp] at hl
      have e1 : costF ns m es1 = (cs (nsOf ns) m b).getD b 0 := by omega
      refine ⟨b, cheap_iff.mpr ⟨_, hin, rfl, ?_⟩, es1, (paths_mem hF b (by omega) es1).mpr ⟨hb, e1⟩, rfl⟩
      show (cs (nsOf ns) m ns.length).getD b 0 = least (rate0 (cs (nsOf ns) m ns.length) (linesF (nsOf ns) ns.length (m + 1)))
      rw [hleast, hcp]
      omega
/-! ### their order -/
def revGt (a b : List Nat) : Prop := b.reverse < a.reverse
theorem flat_desc {P : Nat → List (List Nat)} {e : Nat} : ∀ {bs : List Nat}, bs.Pairwise (· > ·) → (∀ b ∈ bs, (P b).Pairwise revGt) → (∀ b ∈ bs, ∀ es ∈ P b, es.getLast?.getD 0 = b) →
    (bs.flatMap fun b => (P b).map (· ++ [e])).Pairwise revGt
  | [], _, _, _ => List.Pairwise.nil
  | b :: bs, h1, h2, h3 => by
    rw [List.flatMap_cons, List.pairwise_append]
    obtain ⟨k1, k2⟩ := List.pairwise_cons.mp h1
    refine ⟨?_, flat_desc k2 (fun x hx => h2 x (List.mem_cons_of_mem _ hx)) (fun x hx => h3 x (List.mem_cons_of_mem _ hx)), ?_⟩
    · rw [List.pairwise_map]
      refine (h2 b (List.mem_cons_self ..)).imp fun {x y} h => ?_
      show (y ++ [e]).reverse < (x ++ [e]).reverse
      rw [List.reverse_append, List.reverse_append]
      exact List.cons_lt_cons_iff.mpr (.inr ⟨rfl, h⟩)
    · rintro x hx y hy
      obtain ⟨x1, hx1, rfl⟩ := List.mem_map.mp hx
      obtain ⟨b', hb', y1, hy1, rfl⟩ := mem_step.mp hy
      have hlt : b' < b := k1 b' hb'
      have ex := h3 b (List.mem_cons_self ..) x1 hx1
      have ey := h3 b' (List.mem_cons_of_mem _ hb') y1 hy1
      show (y1 ++ [e]).reverse < (x1 ++ [e]).reverse
      rw [List.reverse_append, List.reverse_append]
      refine List.cons_lt_cons_iff.mpr (.inr ⟨rfl, ?_⟩)
      have hxn : x1 ≠ [] := fun z => by
        subst z
        have : 0 = b := ex
        omega
      obtain ⟨x2, u, rfl⟩ : ∃ x2 u, x1 = x2 ++ [u] := ⟨x1.dropLast, x1.getLast hxn, (List.dropLast_concat_getLast hxn).symm⟩
      rw [List.getLast?_concat] at ex
      have ex : u = b := ex
      rw [List.reverse_append]
      by_cases hyn : y1 = []
      · subst hyn
        show [] < u :: x2.reverse
        exact List.Lex.nil
      · obtain ⟨y2, v, rfl⟩ : ∃ y2 v, y1 = y2 ++ [v] := ⟨y1.dropLast, y1.getLast hyn, (List.dropLast_concat_getLast hyn).symm⟩
        rw [List.getLast?_concat] at ey
        have ey : v = b' := ey
        rw [List.reverse_append]
        exact List.cons_lt_cons_iff.mpr (.inl (by omega))
theorem paths_desc {ns : List Int} {m : Int} (hF : Fit m ns) : ∀ (e : Nat), e ≤ ns.length → (paths ns m e e).Pairwise revGt := by
  intro e
  induction e using Nat.strongRecOn with
  | ind e ih =>
    intro he
    match e, ih, he with
    | 0, _, _ => exact List.pairwise_singleton _ _
    | d + 1, ih, he =>
      rw [paths_succ]
      refine flat_desc (bB_desc ns m (d + 1)) (fun b hb => ih b (bB_lt hb) (by have := bB_lt hb; omega)) fun b hb es hes => ?_
      have := bB_lt hb
      exact ((paths_mem hF b (by omega) es).mp hes).1.lastG
theorem bests_desc {ns : List Int} {m : Int} (hF : Fit m ns) : (bests ns m).Pairwise revGt := by
  unfold bests
  by_cases h0 : ns.length = 0
  · rw [if_pos h0]
    exact List.pairwise_singleton _ _
  · rw [if_neg h0]
    refine flat_desc (lastB_desc ns m) (fun b hb => paths_desc hF b (by have := lastB_lt hb; omega)) fun b hb es hes => ?_
    have := lastB_lt hb
    exact ((paths_mem hF b (by omega) es).mp hes).1.lastG
/-! ### the walk -/
/-- what a waiting beginning hands out -/
def outOf (ns : List Int) (m : Int) (it : Nat × List Nat) : List (List Nat) := (paths ns m it.1 it.1).map (· ++ it.2)
theorem outOf_zero (ns : List Int) (m : Int) (suf : List Nat) : outOf ns m (0, suf) = [suf] := rfl
theorem outOf_succ (ns : List Int) (m : Int) (e : Nat) (suf : List Nat) : outOf ns m (e + 1, suf) = (bB ns m (e + 1)).flatMap fun b => outOf ns m (b, (e + 1) :: suf) := by
  unfold outOf
  dsimp only
  rw [paths_succ, List.map_flatMap]
  refine flatMap_cong fun b _ => ?_
  rw [List.map_map]
  refine List.map_congr_left fun x _ => ?_
  show x ++ [e + 1] ++ suf = x ++ (e + 1) :: suf
  rw [List.append_assoc]
  rfl
theorem bests_out {ns : List Int} {m : Int} (h0 : 0 < ns.length) : bests ns m = (lastB (nsOf ns) m ns.length).flatMap fun b => outOf ns m (b, [ns.length]) := by
  unfold bests
  rw [if_neg (by omega)]
  rfl
def load (its : List (Nat × List Nat)) : Nat := (its.map fun it => 2 ^ it.1).sum
theorem pow_sum : ∀ {l : List Nat} {b : Nat}, l.Pairwise (· > ·) → (∀ x ∈ l, x < b) → (l.map (2 ^ ·)).sum + 1 ≤ 2 ^ b
  | [], b, _, _ => Nat.one_le_two_pow
  | x :: l, b, h1, h2 => by
    obtain ⟨k1, k2⟩ := List.pairwise_cons.mp h1
    have := pow_sum (b := x) k2 fun y hy => k1 y hy
    have hx := h2 x (List.mem_cons_self ..)
    have : 2 ^ (x + 1) ≤ 2 ^ b := Nat.pow_le_pow_right (by decide) (by omega)
    rw [Nat.pow_succ] at this
    rw [List.map_cons, List.sum_cons]
    omega
end SL

set_option Elab.async false
set_option linter.all false
set_option maxRecDepth 100000
set_option maxHeartbeats 1000000
/-! Own layer 39: generator defs of the text: where they stand, what they promise; list(g). -/
namespace SL
open PySem PySem.Spec PyProof.Rows L2
/-- a generator def: where it stands, what it promises -/
structure GDef (P : Program) (w : World) (K : PySem.W.Frag) (mg : Str → Option Value) (base : Heap) (CX : CXT) (k : Nat) (x : Str) (st : Stmt) (ps : List Str) (sp : SpG) : Prop where
  ex : ∃ f fd, Fun K x x st f fd ∧ mg x = some (.ref f) ∧ GFn P w K mg base k f fd ps sp
section
variable {P : Program} {w : World} {K : PySem.W.Frag} {mg : Str → Option Value} {base : Heap}
theorem gokO {x qual : Str} {st : Stmt} {f : Addr} {fd : FuncData} {N ps : List Str} {k : Nat} {sp : SpG} (F : Fun K x qual st f fd) (S : GScope N ps (defScope st)) (len : ∀ vs H Q E, sp vs H Q E → vs.length = ps.length)
    (hbody : ∀ (cdv : Value) (A : Around) (outer : List Env) (s : Shared) (H : Hp) (vs : List V) (Q : List V → Hp → Prop) (E : XK) (pn : List (Addr × Obj)), True → Room k (A.deeper (envOfC qual (defScope st) s.heap.objs.size f cdv)) → sp vs H Q E →
      ∃ t, GSs (gcxOf P w K mg base N qual (defScope st) f cdv A outer s H E pn) (defBody st) t ∧ t { nx := fun ys _ H' => Q ys H', rt := fun ys v H' => v = .non ∧ Q ys H' } [] (start N vs) H) : GFn P w K mg base (k + 1) f fd ps sp := by
  obtain ⟨oc, od, kV, doc, pm, an, cdv, ct, osl, rfl, lk, hcd⟩ := F.ex
  exact gfn_of lk hcd S len fun A o s H vs Q E pn hr h => hbody cdv A o s H vs Q E pn trivial hr h
end
def rLenS (K : PySem.W.Frag) : List V → Hp → VK → Prop := fun xs H Q => ∃ p ys, xs = [V.ref p] ∧ (SqL K H p ys ∨ SqT K H p ys) ∧ Q (V.int (ys.length : Nat)) H
/-- best_layouts of a text that is fit -/
def spBests (K : PySem.W.Frag) : SpG := fun vs H Q _ => ∃ (m : Int) (t : Addr) (ns : List Int), vs = [.int m, .ref t] ∧ SqT K H t (ns.map V.int) ∧ Fit m ns ∧ 1 ≤ m ∧ m ≤ 1000000000 ∧ ns.length ≤ 1000 ∧ (bests ns m).length ≤ sizeLine ∧
  ∀ rs H', Same H H' → AllAt (TpAt K H') rs (bests ns m) → Q rs H'
section
variable {X : Cx} {k : Nat} {st : Stmt} {ps ks : List Str} {sp : SpG} {x : Str} {p q pos pos' : Pos} {e : Expr} {es : List Expr} {kws : List Keyword} {t tk : TA}
theorem run_gfnB {f : Addr} {fd : FuncData} {pins : List (Addr × Obj)} {σ : L2.St} {H : Hp} {s : Shared} {args : Args} {us : List Value} {vs : List V} {cont : List V → Hp → Prop} {E : XK} {E1 : Value → Shared → Prop} (F : GFn X.prog X.w X.K X.mg X.base k f fd ps sp) (hr : Room k X.A)
    (hb : BindsTo s fd args (ps.zip us)) (I : Inv X pins σ H s) (r : Vals vs us) (h : sp vs H cont E) :
    wpAny (model X.prog X.w) X.A (call (.ref f) args.pos args.kw) (fun u s' => ∃ H1 sc ex, Inv X pins σ H1 sc ∧ ExOk X pins ex ∧ GMade X.prog X.w k X.stack H1 sc ex cont E u s') E1 s := by
  refine wpAny_call (codeAny_mono (F.run X.A X.stack s H args us vs cont E hr I.env0 hb r h) fun r s' hq => ?_)
  cases r with
  | error e => exact False.elim hq
  | ok fl =>
    cases fl with
    | ret u => exact ⟨H, s, [], I, .nil, hq⟩
    | next => exact False.elim hq
    | brk => exact False.elim hq
    | cont => exact False.elim hq
def tCallGG (sp : SpG) (E : XK) (t : TA) : TGen := fun σ H cont => t σ H fun vs H1 => sp vs H1 cont E
/-- f(e, ..) of a generator def -/
theorem pgen_def {E : XK} (D : GDef X.prog X.w X.K X.mg X.base CX0 k x st ps sp) (hr : Room k X.A) (hgl : Gl X x)
    (hbind : ∀ (kV doc pm : Value) (an : Option Addr) (cdv ct : Value) (us : List Value), us.length = ps.length → bindArgs (PySem.W.fnOf x x (defArgs st) (defBody st) (defScope st) .none kV doc pm an cdv ct) ⟨us, []⟩ = pure (ps.zip us))
    (ha : PA X (e :: es) t) (hdb : (x == ("__debug__" : Str)) = false := by decide) (he : starEach (e :: es) X.env = (false, eval e X.env) :: starEach es X.env := by rfl) (hpl : (backTo pos (starEach es X.env)).any (·.1) = false := by rfl) :
    PGen X k (.Call (.Name x p) (e :: es) [] pos) (tCallGG sp E t) E := by
  obtain ⟨f, fd, F, hm, G⟩ := D.ex
  refine ⟨fun pins s σ H cont I h => wpAny_Call_Name_kw (ld_glob I hgl hm ?_ hdb)⟩
  refine PySem.W.callWith_K (h₀ := X.base) I.ok.mod.kin F.kp (thn (ha.run pos pins s σ H _ I h) fun us s1 ⟨vs, H1, I1, r, q⟩ => ⟨I1.kIn, ?_⟩) he hpl
  have hl : us.length = ps.length := r.length.symm.trans (G.len _ _ _ _ q)
  obtain ⟨oc, od, kV, doc, pm, an, cdv, ct, osl, rfl, lk, hcd⟩ := F.ex
  exact run_gfnB (args := ⟨us, []⟩) G hr (.of_eq (hbind kV doc pm an cdv ct us hl)) I1 r q
def tCallGK (n : Nat) (sp : SpG) (g : List V → List V) (E : XK) (tk : TA) : TGen := fun σ H cont => tk σ H fun zs H1 => zs.length = n ∧ sp (g zs) H1 cont E
/-- f(k = v, ..) of a generator def -/
theorem pgen_defK {E : XK} {g : {α : Type} → List α → List α} (D : GDef X.prog X.w X.K X.mg X.base CX0 k x st ps sp) (hr : Room k X.A) (hgl : Gl X x)
    (hbind : ∀ (kV doc pm : Value) (an : Option Addr) (cdv ct : Value) (ws : List Value), ws.length = ks.length → bindArgs (PySem.W.fnOf x x (defArgs st) (defBody st) (defScope st) .none kV doc pm an cdv ct) ⟨[], ks.zip ws⟩ = pure (ps.zip (g ws)))
    (hgv : ∀ {zs : List V} {ws : List Value}, zs.length = ks.length → Vals zs ws → Vals (g zs) (g ws)) (hkw : PK X kws tk) (hall : (backToKw pos (keywordEach kws X.env)).all (·.1.isSome) = true := by rfl) (hks : (backToKw pos (keywordEach kws X.env)).filterMap (·.1) = ks := by rfl)
    (hdb : (x == ("__debug__" : Str)) = false := by decide) (hpl : ((backTo pos (starEach [] X.env)).any (·.1) || (backToKw pos (keywordEach kws X.env)).any (·.1.isNone)) = false := by rfl) :
    PGen X k (.Call (.Name x p) [] kws pos) (tCallGK ks.length sp g E tk) E := by
  obtain ⟨f, fd, F, hm, G⟩ := D.ex
  refine ⟨fun pins s σ H cont I h => wpAny_Call_Name_kw (ld_glob I hgl hm ?_ hdb)⟩
  refine PySem.W.callWith_KW0 (h₀ := X.base) I.ok.mod.kin F.kp hall (thn (hkw.run pos pins s σ H _ I h) fun ws s1 ⟨zs, H1, I1, r, hn, q⟩ => ⟨I1.kIn, ?_⟩) hpl
  rw [hks]
  obtain ⟨oc, od, kV, doc, pm, an, cdv, ct, osl, rfl, lk, hcd⟩ := F.ex
  exact run_gfnB (args := ⟨[], ks.zip ws⟩) G hr (.of_eq (hbind kV doc pm an cdv ct ws (r.length.symm.trans hn))) I1 (hgv hn r) q
end
/-! ### the walk through the best layouts -/
def WaAt (K : PySem.W.Frag) (H : Hp) (a : Addr) (it : Nat × List Nat) : Prop := ∃ t, H a = some (.tup [natV it.1, .ref t]) ∧ TpAt K H t it.2
theorem WaAt.same {K : PySem.W.Frag} {H H' : Hp} (h : Same H H') : ∀ a p, WaAt K H a p → WaAt K H' a p := fun a p ⟨t, k1, k2⟩ => ⟨t, h _ _ k1, Same.tup h k2⟩
theorem WaAt.lst {K : PySem.W.Frag} {H : Hp} {l : Addr} {ys : List V} {o : HO} (hl : H l = some (.lst ys)) : ∀ a p, WaAt K H a p → WaAt K (upd H l o) a p := fun a p ⟨t, k1, k2⟩ => ⟨t, tup_past hl k1, sqT_past hl k2⟩
def WalkAt (K : PySem.W.Frag) (H1 : Hp) (p t wl : Addr) (m : Int) (ns : List Int) (meas : Nat) (ys : List V) (σ : L2.St) (G : Hp) : Prop :=
  ∃ (y4 y5 y6 : Option V) (ws : List V) (its : List (Nat × List Nat)) (yss : List (List Nat)), σ = [some (.int m), some (.ref t), some (.ref p), some (.ref wl), y4, y5, y6] ∧ Same H1 G ∧ G wl = some (.lst ws) ∧ AllAt (WaAt K G) ws its ∧ AllAt (TpAt K G) ys yss ∧
    yss ++ its.reverse.flatMap (outOf ns m) = bests ns m ∧ (∀ it ∈ its, it.1 ≤ ns.length ∧ it.2.length + it.1 ≤ ns.length) ∧ meas = load its
theorem paths_ne {ns : List Int} {m : Int} (hF : Fit m ns) {e : Nat} (he : e ≤ ns.length) : paths ns m e e ≠ [] := fun z => by
  obtain ⟨es, h⟩ := Pth.ex hF ns.length e he he
  obtain ⟨h1, h2⟩ := h.plan hF (n := 0) he
  have := (paths_mem hF e he es).mpr ⟨h1, h2⟩
  rw [z] at this
  cases this
theorem walk_len {ns : List Int} {m : Int} (hF : Fit m ns) : ∀ {its : List (Nat × List Nat)}, (∀ it ∈ its, it.1 ≤ ns.length) → its.length ≤ (its.flatMap (outOf ns m)).length
  | [], _ => Nat.zero_le _
  | it :: its, h => by
    have h1 := walk_len hF fun x hx => h x (List.mem_cons_of_mem _ hx)
    have h2 : 0 < (outOf ns m it).length := by
      unfold outOf
      rw [List.length_map]
      exact List.length_pos_iff.mpr (paths_ne hF (h it (List.mem_cons_self ..)))
    rw [List.flatMap_cons, List.length_append, List.length_cons]
    omega
theorem load_app (a b : List (Nat × List Nat)) : load (a ++ b) = load a + load b := by
  unfold load
  rw [List.map_append, List.sum_append]
theorem load_kids {ns : List Int} {m : Int} (b : Nat) (suf : List Nat) : load ((bB ns m b).reverse.map fun x => (x, suf)) < load [(b, suf)] := by
  have h := pow_sum (bB_desc ns m b) (fun x hx => bB_lt hx)
  unfold load
  rw [List.map_map, List.map_reverse, List.sum_reverse]
  show ((bB ns m b).map fun x => 2 ^ x).sum < 2 ^ b + 0
  omega
theorem kids_out (ns : List Int) (m : Int) (b : Nat) (suf : List Nat) (its : List (Nat × List Nat)) :
    (its ++ (bB ns m b).reverse.map fun x => (x, b :: suf)).reverse.flatMap (outOf ns m) = (bB ns m b).flatMap (fun x => outOf ns m (x, b :: suf)) ++ its.reverse.flatMap (outOf ns m) := by
  rw [List.reverse_append, List.flatMap_append, ← List.map_reverse, List.reverse_reverse]
  congr 1
  induction bB ns m b with
  | nil => rfl
  | cons x xs ih => rw [List.map_cons, List.flatMap_cons, List.flatMap_cons, ih]
theorem begs_bB {ns : List Int} {m : Int} : ∀ {n b : Nat}, b ≤ n → (begs (nsOf ns) m n)[b]? = some (bB ns m b)
  | 0, 0, _ => rfl
  | n + 1, 0, _ => by
    have h := begs_bB (ns := ns) (m := m) (Nat.zero_le n)
    show (begs (nsOf ns) m n ++ [_])[0]? = _
    rw [List.getElem?_append_left (by rw [begs_len]; omega)]
    exact h
  | n, b + 1, h => begs_at h
end SL

set_option Elab.async false
set_option linter.all false
set_option maxRecDepth 100000
set_option maxHeartbeats 1000000
/-! Own layer 40: widths and words enlarged. -/
namespace SL
open PySem PySem.Spec PyProof.Rows L2
def scl (k x : Int) : Int := k * (x + 1) - 1
theorem lines_scl {ns : Nat → Int} {k : Int} (hk : 1 ≤ k) : ∀ (e : Nat) (f : Int), linesF (fun b => scl k (ns b)) e (k * f) = (linesF ns e f).map fun p => (p.1, k * p.2)
  | 0, f => rfl
  | e + 1, f => by
    have e1 : k * f - (scl k (ns e) + 1) = k * (f - (ns e + 1)) := by
      unfold scl
      rw [Int.mul_sub]
      omega
    by_cases h : ns e < f
    · have h' : scl k (ns e) < k * f := by
        unfold scl
        have := Int.mul_le_mul_of_nonneg_left (show ns e + 1 ≤ f by omega) (show 0 ≤ k by omega)
        omega
      rw [linesF_yes h, linesF_yes h', e1, lines_scl hk e]
      rfl
    · have h' : ¬ scl k (ns e) < k * f := by
        unfold scl
        intro z
        have h1 : f + 1 ≤ ns e + 1 := by omega
        have := Int.mul_le_mul_of_nonneg_left h1 (show 0 ≤ k by omega)
        rw [Int.mul_add k f 1] at this
        omega
      rw [linesF_no h, linesF_no h']
      rfl
theorem least_scl {c : Int} (hc : 0 < c) : ∀ rs : List (Int × Nat), least (rs.map fun x => (c * x.1, x.2)) = c * least rs
  | [] => by simp [least]
  | r :: rs => by
    have key : ∀ (rs : List (Int × Nat)) (m : Int), (rs.map fun x => (c * x.1, x.2)).foldl stepL (c * m) = c * rs.foldl stepL m := by
      intro rs
      induction rs with
      | nil => intro m; rfl
      | cons x xs ih =>
        intro m
        rw [List.map_cons, List.foldl_cons, List.foldl_cons]
        have : stepL (c * m) (c * x.1, x.2) = c * stepL m x := by
          unfold stepL
          dsimp only
          by_cases h : x.1 < m
          · rw [if_pos h, if_pos (Int.mul_lt_mul_of_pos_left h hc)]
          · rw [if_neg h, if_neg (fun z => h (Int.lt_of_mul_lt_mul_left z (by omega)))]
        rw [this]
        exact ih _
    exact key rs r.1
theorem cheap_scl {c : Int} (hc : 0 < c) (rs : List (Int × Nat)) : cheap (rs.map fun x => (c * x.1, x.2)) = cheap rs := by
  unfold cheap
  rw [least_scl hc, List.filter_map, List.map_map]
  have : (fun r : Int × Nat => decide (r.1 = c * least rs)) ∘ (fun x : Int × Nat => (c * x.1, x.2)) = fun r => decide (r.1 = least rs) := by
    funext r
    show decide (c * r.1 = c * least rs) = decide (r.1 = least rs)
    refine decide_eq_decide.mpr ⟨fun h => Int.eq_of_mul_eq_mul_left (by omega) h, fun h => by rw [h]⟩
  rw [this]
  rfl
theorem getD_scl (c : Int) (L : List Int) (b : Nat) : (L.map (c * ·)).getD b 0 = c * L.getD b 0 := by
  rw [List.getD_eq_getElem?_getD, List.getD_eq_getElem?_getD, List.getElem?_map]
  match L[b]? with
  | none => show (0 : Int) = c * 0; omega
  | some x => rfl
theorem rate_scl {k : Int} (L : List Int) (ls : List (Nat × Int)) : rate (L.map (k ^ 2 * ·)) (ls.map fun p => (p.1, k * p.2)) = (rate L ls).map fun x => (k ^ 2 * x.1, x.2) := by
  unfold rate
  rw [List.map_map, List.map_map]
  refine List.map_congr_left fun p _ => ?_
  show ((L.map (k ^ 2 * ·)).getD p.1 0 + (k * p.2) ^ 2, p.1) = (k ^ 2 * (L.getD p.1 0 + p.2 ^ 2), p.1)
  rw [getD_scl, Int.mul_pow, Int.mul_add]
theorem rate0_scl {k : Int} (L : List Int) (ls : List (Nat × Int)) : rate0 (L.map (k ^ 2 * ·)) (ls.map fun p => (p.1, k * p.2)) = (rate0 L ls).map fun x => (k ^ 2 * x.1, x.2) := by
  unfold rate0
  rw [List.map_map, List.map_map]
  refine List.map_congr_left fun p _ => ?_
  show ((L.map (k ^ 2 * ·)).getD p.1 0, p.1) = (k ^ 2 * L.getD p.1 0, p.1)
  rw [getD_scl]
theorem nsOf_scl {k : Int} {ns : List Int} {b : Nat} (h : b < ns.length) : nsOf (ns.map (scl k)) b = scl k (nsOf ns b) := by
  unfold nsOf
  rw [List.getD_eq_getElem?_getD, List.getD_eq_getElem?_getD, List.getElem?_map, List.getElem?_eq_getElem h]
  rfl
theorem linesL_scl {k : Int} (hk : 1 ≤ k) {ns : List Int} {m : Int} {e : Nat} (he : e ≤ ns.length) : linesF (nsOf (ns.map (scl k))) e (scl k m + 1) = (linesF (nsOf ns) e (m + 1)).map fun p => (p.1, k * p.2) := by
  rw [show scl k m + 1 = k * (m + 1) by unfold scl; omega, ← lines_scl hk]
  exact linesF_congr fun b hb => nsOf_scl (by omega)
theorem sq_pos {k : Int} (hk : 1 ≤ k) : 0 < k ^ 2 := Int.pow_pos (by omega)
theorem cs_scl {k : Int} (hk : 1 ≤ k) {ns : List Int} {m : Int} : ∀ {e : Nat}, e ≤ ns.length → cs (nsOf (ns.map (scl k))) (scl k m) e = (cs (nsOf ns) m e).map (k ^ 2 * ·)
  | 0, _ => by simp [cs]
  | e + 1, he => by
    show cs _ _ e ++ [least (rate (cs _ _ e) (linesF _ (e + 1) (scl k m + 1)))] = (cs (nsOf ns) m e ++ [least (rate (cs (nsOf ns) m e) (linesF (nsOf ns) (e + 1) (m + 1)))]).map (k ^ 2 * ·)
    rw [cs_scl hk (e := e) (by omega), linesL_scl hk he, rate_scl, least_scl (sq_pos hk), List.map_append]
    rfl
theorem bB_scl {k : Int} (hk : 1 ≤ k) {ns : List Int} {m : Int} : ∀ {e : Nat}, e ≤ ns.length → bB (ns.map (scl k)) (scl k m) e = bB ns m e
  | 0, _ => rfl
  | e + 1, he => by
    show cheap (rate (cs _ _ e) (linesF _ (e + 1) (scl k m + 1))) = _
    rw [cs_scl hk (e := e) (by omega), linesL_scl hk he, rate_scl, cheap_scl (sq_pos hk)]
    rfl
theorem lastB_scl {k : Int} (hk : 1 ≤ k) (ns : List Int) (m : Int) : lastB (nsOf (ns.map (scl k))) (scl k m) ns.length = lastB (nsOf ns) m ns.length := by
  unfold lastB
  rw [cs_scl hk (Nat.le_refl _), linesL_scl hk (Nat.le_refl _), rate0_scl, cheap_scl (sq_pos hk)]
theorem cnt_scl {k : Int} (hk : 1 ≤ k) {ns : List Int} {m : Int} : ∀ {e : Nat}, e ≤ ns.length → cnt (nsOf (ns.map (scl k))) (scl k m) e = cnt (nsOf ns) m e
  | 0, _ => rfl
  | e + 1, he => by
    show cnt _ _ e ++ [sumAt (cnt _ _ e) (bB (ns.map (scl k)) (scl k m) (e + 1))] = cnt (nsOf ns) m e ++ [sumAt (cnt (nsOf ns) m e) (bB ns m (e + 1))]
    rw [cnt_scl hk (e := e) (by omega), bB_scl hk he]
theorem many_scl {k : Int} (hk : 1 ≤ k) (ns : List Int) (m : Int) : many (nsOf (ns.map (scl k))) (scl k m) ns.length = many (nsOf ns) m ns.length := by
  unfold many
  rw [cnt_scl hk (Nat.le_refl _), lastB_scl hk]
theorem fB_bB (ns : List Int) (m : Int) (e : Nat) : fB (nsOf ns) m e = (bB ns m e).headD 0 := by
  match e with
  | 0 => rfl
  | e + 1 => rfl
theorem fB_scl {k : Int} (hk : 1 ≤ k) {ns : List Int} {m : Int} {e : Nat} (he : e ≤ ns.length) : fB (nsOf (ns.map (scl k))) (scl k m) e = fB (nsOf ns) m e := by
  rw [fB_bB, fB_bB, bB_scl hk he]
theorem lB_scl {k : Int} (hk : 1 ≤ k) (ns : List Int) (m : Int) : lB (ns.map (scl k)) (scl k m) = lB ns m := by
  have h := lastB_scl hk ns m
  show (lastB (nsOf (ns.map (scl k))) (scl k m) (ns.map (scl k)).length).headD 0 = (lastB (nsOf ns) m ns.length).headD 0
  rw [List.length_map, h]
theorem paths_scl {k : Int} (hk : 1 ≤ k) {ns : List Int} {m : Int} : ∀ (e : Nat), e ≤ ns.length → paths (ns.map (scl k)) (scl k m) e e = paths ns m e e := by
  intro e
  induction e using Nat.strongRecOn with
  | ind e ih =>
    intro he
    match e, ih, he with
    | 0, _, _ => rfl
    | d + 1, ih, he =>
      rw [paths_succ, paths_succ, bB_scl hk he]
      refine flatMap_cong fun b hb => ?_
      rw [ih b (bB_lt hb) (by have := bB_lt hb; omega)]
theorem bests_scl {k : Int} (hk : 1 ≤ k) (ns : List Int) (m : Int) : bests (ns.map (scl k)) (scl k m) = bests ns m := by
  unfold bests
  rw [List.length_map, lastB_scl hk]
  by_cases h : ns.length = 0
  · rw [if_pos h, if_pos h]
  · rw [if_neg h, if_neg h]
    refine flatMap_cong fun b hb => ?_
    rw [paths_scl hk b (by have := lastB_lt hb; omega)]
theorem lenL_scl {k : Int} {ns : List Int} : ∀ {n lo : Nat}, lo + n + 1 ≤ ns.length → lenL (ns.map (scl k)) lo (lo + n + 1) = scl k (lenL ns lo (lo + n + 1)) := by
  intro n
  induction n with
  | zero =>
    intro lo h
    rw [lenL_one (by rw [List.length_map]; omega), lenL_one (by omega), nsOf_scl (by omega)]
  | succ n ih =>
    intro lo h
    rw [show lo + (n + 1) + 1 = (lo + n + 1) + 1 by omega, lenL_push (ns := ns.map (scl k)) (b := lo) (e := lo + n + 1) (by omega) (by rw [List.length_map]; omega), lenL_push (ns := ns) (b := lo) (e := lo + n + 1) (by omega) (by omega), ih (by omega), nsOf_scl (by omega)]
    unfold scl
    have := Int.mul_add k (lenL ns lo (lo + n + 1) + 1) (nsOf ns (lo + n + 1) + 1)
    rw [show lenL ns lo (lo + n + 1) + 1 + nsOf ns (lo + n + 1) + 1 = (lenL ns lo (lo + n + 1) + 1) + (nsOf ns (lo + n + 1) + 1) by omega]
    omega
theorem paths_many (ns : List Int) (m : Int) : ∀ (e : Nat), (paths ns m e e).length ≤ 2 ^ e := by
  intro e
  induction e using Nat.strongRecOn with
  | ind e ih =>
    match e, ih with
    | 0, _ => exact Nat.le_refl _
    | d + 1, ih =>
      rw [paths_succ, List.length_flatMap]
      have h1 : ((bB ns m (d + 1)).map fun b => ((paths ns m b b).map (· ++ [d + 1])).length).sum ≤ ((bB ns m (d + 1)).map (2 ^ ·)).sum := by
        have : ∀ l : List Nat, (∀ b ∈ l, b < d + 1) → (l.map fun b => ((paths ns m b b).map (· ++ [d + 1])).length).sum ≤ (l.map (2 ^ ·)).sum := by
          intro l
          induction l with
          | nil => exact fun _ => Nat.le_refl _
          | cons x xs ih2 =>
            intro h
            rw [List.map_cons, List.map_cons, List.sum_cons, List.sum_cons, List.length_map]
            have := ih2 fun y hy => h y (List.mem_cons_of_mem _ hy)
            have := ih x (h x (List.mem_cons_self ..))
            omega
        exact this _ fun b hb => bB_lt hb
      have := pow_sum (bB_desc ns m (d + 1)) (fun x hx => bB_lt hx)
      omega
theorem bests_many (ns : List Int) (m : Int) : (bests ns m).length ≤ 2 ^ ns.length := by
  unfold bests
  by_cases h : ns.length = 0
  · rw [if_pos h, h]
    exact Nat.le_refl _
  · rw [if_neg h, List.length_flatMap]
    have : ∀ l : List Nat, (l.map fun b => ((paths ns m b b).map (· ++ [ns.length])).length).sum ≤ (l.map (2 ^ ·)).sum := by
      intro l
      induction l with
      | nil => exact Nat.le_refl _
      | cons x xs ih2 =>
        rw [List.map_cons, List.map_cons, List.sum_cons, List.sum_cons, List.length_map]
        have := paths_many ns m x
        omega
    have h1 := this (lastB (nsOf ns) m ns.length)
    have := pow_sum (lastB_desc ns m) (fun x hx => lastB_lt hx)
    omega
/-- how many best layouts a text has, the empty one too -/
def manyE (ns : List Int) (m : Int) : Int := if ns.length = 0 then 1 else many (nsOf ns) m ns.length
def spCountE (K : PySem.W.Frag) : Sp := fun vs H Q _ => ∃ (m : Int) (t : Addr) (ns : List Int), vs = [.int m, .ref t] ∧ SqT K H t (ns.map V.int) ∧ Fit m ns ∧ 1 ≤ m ∧ m ≤ 1000000000 ∧ ns.length ≤ 1000 ∧
  ∀ H', Same H H' → Q (.int (manyE ns m)) H'
theorem manyE_scl {k : Int} (hk : 1 ≤ k) (ns : List Int) (m : Int) : manyE (ns.map (scl k)) (scl k m) = manyE ns m := by
  unfold manyE
  rw [List.length_map, many_scl hk]
theorem fit_scl {k : Int} (hk : 1 ≤ k) {ns : List Int} {m : Int} (hF : Fit m ns) : Fit (scl k m) (ns.map (scl k)) := fit_of fun x hx => by
  obtain ⟨y, hy, rfl⟩ := List.mem_map.mp hx
  obtain ⟨h1, h2⟩ := fit_all hF y hy
  unfold scl
  have a := Int.mul_le_mul_of_nonneg_left (show y + 1 ≤ m + 1 by omega) (show 0 ≤ k by omega)
  have b := Int.mul_le_mul_of_nonneg_left (show 2 ≤ y + 1 by omega) (show 0 ≤ k by omega)
  omega
theorem pth_scl {k : Int} (hk : 1 ≤ k) {ns : List Int} {m : Int} (hF : Fit m ns) {e : Nat} {es : List Nat} (he : e ≤ ns.length) (h : Pth (fB (nsOf (ns.map (scl k))) (scl k m)) e es) : Pth (fB (nsOf ns) m) e es :=
  pth_congr h (fun j hj => fB_scl hk (by omega)) fun j h1 h2 => by
    rw [fB_scl hk (by omega)]
    exact fB_lt' hF h1 (by omega)
theorem scl_le {k x y : Int} (hk : 1 ≤ k) : scl k x ≤ scl k y ↔ x ≤ y := by
  unfold scl
  constructor
  · intro h
    by_cases q : x ≤ y
    · exact q
    · have a := Int.mul_le_mul_of_nonneg_left (show y + 1 + 1 ≤ x + 1 by omega) (show 0 ≤ k by omega)
      rw [Int.mul_add k (y + 1) 1] at a
      omega
  · intro h
    have a := Int.mul_le_mul_of_nonneg_left (show x + 1 ≤ y + 1 by omega) (show 0 ≤ k by omega)
    omega
/-- the end that last_end answers is one -/
theorem last_uni {ns : List Int} {m : Int} (hF : Fit m ns) {b e f : Nat} (h1 : b < e) (h2 : e ≤ ns.length) (h3 : lenL ns b e ≤ m ∨ e = b + 1) (h4 : e < ns.length → m < lenL ns b (e + 1)) (k1 : b < f) (k2 : f ≤ ns.length) (k3 : lenL ns b f ≤ m ∨ f = b + 1) (k4 : f < ns.length → m < lenL ns b (f + 1)) : e = f := by
  have no : ∀ {e f : Nat}, b < e → e < f → f ≤ ns.length → (lenL ns b f ≤ m ∨ f = b + 1) → (e < ns.length → m < lenL ns b (e + 1)) → False := fun {e f} a1 a2 a3 a4 a5 => by
    have hm := a5 (by omega)
    rcases a4 with z | z
    · have := lenL_le (fit_pos hF) (b := b) (e := e + 1) (d := f - (e + 1)) (by omega) (by omega)
      rw [show e + 1 + (f - (e + 1)) = f by omega] at this
      omega
    · omega
  rcases Nat.lt_trichotomy e f with z | z | z
  · exact (no h1 z k2 k3 h4).elim
  · exact z
  · exact (no k1 z h2 h3 k4).elim
theorem last_scl {k : Int} (hk : 1 ≤ k) {ns : List Int} {m : Int} (hF : Fit m ns) {b e f : Nat} (h1 : b < e) (h2 : e ≤ (ns.map (scl k)).length) (h3 : lenL (ns.map (scl k)) b e ≤ scl k m ∨ e = b + 1) (h4 : e < (ns.map (scl k)).length → scl k m < lenL (ns.map (scl k)) b (e + 1))
    (k1 : b < f) (k2 : f ≤ ns.length) (k3 : lenL ns b f ≤ m ∨ f = b + 1) (k4 : f < ns.length → m < lenL ns b (f + 1)) : e = f := by
  rw [List.length_map] at h2 h4
  refine last_uni hF h1 h2 ?_ (fun he => ?_) k1 k2 k3 k4
  · rcases h3 with h3 | h3
    · obtain ⟨n, rfl⟩ : ∃ n, e = b + n + 1 := ⟨e - b - 1, by omega⟩
      rw [lenL_scl (by omega)] at h3
      exact .inl ((scl_le hk).mp h3)
    · exact .inr h3
  · have h5 := h4 he
    obtain ⟨n, rfl⟩ : ∃ n, e = b + n := ⟨e - b, by omega⟩
    rw [lenL_scl (by omega)] at h5
    by_cases q : m < lenL ns b (b + n + 1)
    · exact q
    · have := (scl_le hk).mpr (show lenL ns b (b + n + 1) ≤ m by omega)
      omega
theorem passE0 {X : Cx} : Passes (CX X.prog X.w) X E0 := fun _ _ _ _ _ _ _ h => by
  obtain ⟨a, B, H', cls, d, z1, fl, z2, ub, z3, z4, z5, z6⟩ := h
  exact z6.elim
theorem nostopE0 {K : PySem.W.Frag} : NoStop K E0 := fun _ _ _ h => h.elim
/-- _law_great -/
def spGreat : Sp := fun vs H Q _ => ∃ x k : Int, vs = [.int x, .int k] ∧ -(10 ^ 12) ≤ x ∧ x ≤ 10 ^ 12 ∧ -(10 ^ 12) ≤ k ∧ k ≤ 10 ^ 12 ∧ Q (.int (scl k x)) H
theorem best_scl {k : Int} (hk : 1 ≤ k) {ns : List Int} {m : Int} (hF : Fit m ns) {es es' : List Nat} (b1 : ns.map (scl k) = [] → es = [])
    (b2 : 0 < (ns.map (scl k)).length → ∃ es0, es = es0 ++ [(ns.map (scl k)).length] ∧ Pth (fB (nsOf (ns.map (scl k))) (scl k m)) (lB (ns.map (scl k)) (scl k m)) es0) (b3 : ns = [] → es' = []) (b4 : 0 < ns.length → ∃ es0, es' = es0 ++ [ns.length] ∧ Pth (fB (nsOf ns) m) (lB ns m) es0) : es = es' := by
  by_cases h0 : ns = []
  · subst h0
    rw [b1 rfl, b3 rfl]
  · have h0 : 0 < ns.length := List.length_pos_iff.mpr h0
    obtain ⟨e1, rfl, p1⟩ := b2 (by rw [List.length_map]; exact h0)
    obtain ⟨e2, rfl, p2⟩ := b4 h0
    rw [lB_scl hk] at p1
    obtain ⟨l1, _⟩ := lB_line hF h0
    rw [(pth_scl hk hF (by omega) p1).uni p2, List.length_map]
theorem closed_scl {k : Int} (hk : 1 ≤ k) {ns : List Int} {m : Int} (hF : Fit m ns) {es es' : List Nat} (h1 : Pth (fB (nsOf (ns.map (scl k))) (scl k m)) (ns.map (scl k)).length es) (h2 : Pth (fB (nsOf ns) m) ns.length es') : es = es' := by
  rw [List.length_map] at h1
  exact (pth_scl hk hF (Nat.le_refl _) h1).uni h2
theorem cost_scl {k : Int} (hk : 1 ≤ k) {ns : List Int} {m : Int} (b : Nat) : (cs (nsOf (ns.map (scl k))) (scl k m) (ns.map (scl k)).length).getD b 0 = (cs (nsOf ns) m ns.length).getD b 0 * k ^ 2 := by
  rw [List.length_map, cs_scl hk (Nat.le_refl _), getD_scl, Int.mul_comm]
theorem dp_two2 {K : PySem.W.Frag} {H : Hp} {l a : Addr} {es : List Nat} {x : Int} (h : H l = some (.lst [.ref a, .int x])) (ha : SqT K H a (es.map natV)) : Dp K H (.ref l) (.list [tupD es, .int x]) := .lst (SqL.of h) (.cons (.tup ha (dp_nats es)) (.cons (.int x) .nil))
theorem eqv_ints2 (x y : Int) : PyData.eqv (.list [.int x, .int y]) (.list [.int x, .int y]) = true := by simp [PyData.eqv, PyData.eqvAll]
theorem eqv_tups2 : ∀ ess : List (List Nat), PyData.eqvAll (ess.map tupD) (ess.map tupD) = true
  | [] => by simp [PyData.eqvAll]
  | e :: ess => by simp [PyData.eqvAll, eqv_tup, eqv_tups2 ess]
theorem isText_fit {ns : List Int} {m : Int} (hF : Fit m ns) (hl : ns.length ≤ 300) : isTextD m (.tuple (ns.map PyData.int)) = true := by
  show (decide ((ns.map PyData.int).length ≤ 300) && (ns.map PyData.int).all fun x => inRange x 1 m) = true
  rw [List.length_map, decide_eq_true hl, Bool.true_and, List.all_eq_true]
  intro x hx
  obtain ⟨y, hy, rfl⟩ := List.mem_map.mp hx
  obtain ⟨h1, h2⟩ := fit_all hF y hy
  show (decide (1 ≤ y) && decide (y ≤ m)) = true
  rw [decide_eq_true h1, decide_eq_true h2]
  rfl
theorem gap_scl {k : Int} {ns : List Int} {m : Int} {i : Nat} (hi : i < ns.length) : scl k m - lenL (ns.map (scl k)) i (i + 1) = k * (m - lenL ns i (i + 1)) := by
  have h := lenL_scl (k := k) (ns := ns) (n := 0) (lo := i) (by omega)
  rw [Nat.add_zero] at h
  rw [h]
  unfold scl
  have := Int.mul_sub k (m + 1) (lenL ns i (i + 1) + 1)
  rw [show m - lenL ns i (i + 1) = (m + 1) - (lenL ns i (i + 1) + 1) by omega]
  omega
end SL

set_option Elab.async false
set_option linter.all false
set_option maxRecDepth 100000
set_option maxHeartbeats 1000000
/-! Own layer 41: what is chosen of all layouts are the best layouts, in their order. -/
namespace SL
open PySem PySem.Spec PyProof.Rows L2
theorem perm_sorted_eq : ∀ {a b : List (List Nat)}, a.Perm b → a.Pairwise (· ≤ ·) → b.Pairwise (· ≤ ·) → a = b
  | [], b, p, _, _ => (List.nil_perm.mp p).symm
  | x :: a, [], p, _, _ => nomatch List.perm_nil.mp p
  | x :: a, y :: b, p, h1, h2 => by
    obtain ⟨k1, k2⟩ := List.pairwise_cons.mp h1
    obtain ⟨j1, j2⟩ := List.pairwise_cons.mp h2
    have e1 : x ≤ y := by
      rcases List.mem_cons.mp (p.mem_iff.mpr (List.mem_cons_self ..)) with h | h
      · rw [h]; exact List.le_refl _
      · exact k1 y h
    have e2 : y ≤ x := by
      rcases List.mem_cons.mp (p.mem_iff.mp (List.mem_cons_self ..)) with h | h
      · rw [h]; exact List.le_refl _
      · exact j1 x h
    obtain rfl : x = y := List.le_antisymm e1 e2
    rw [perm_sorted_eq (List.Perm.cons_inv p) k2 j2]
theorem rev_inj {a b : List Nat} (h : a.reverse = b.reverse) : a = b := by simpa using congrArg List.reverse h
theorem nodup_map_rev {l : List (List Nat)} (h : l.Nodup) : (l.map List.reverse).Nodup := by
  show (l.map List.reverse).Pairwise (· ≠ ·)
  rw [List.pairwise_map]
  exact List.Pairwise.imp (fun {a b} n q => n (rev_inj q)) h
theorem bests_nodup {ns : List Int} {m : Int} (hF : Fit m ns) : (bests ns m).Nodup :=
  (bests_desc hF).imp fun {a b} h q => by
    subst q
    exact List.lt_irrefl _ h
/-- what is chosen of all layouts, each of them there once -/
theorem chosen_bests {ns : List Int} {m : Int} (hF : Fit m ns) {ess : List (List Nat)} (hc : ∀ e ∈ ess, Chain ns m 0 e ns.length) (hcov : ∀ zs, Chain ns m 0 zs ns.length → ess.count zs = 1) {z : Int}
    (hz : z ∈ (ess.map fun e => (costO ns m e, e)).map (·.1)) (hz2 : ∀ y ∈ (ess.map fun e => (costO ns m e, e)).map (·.1), z ≤ y) : chosen z (ess.map fun e => (costO ns m e, e)) = bests ns m := by
  obtain ⟨es, hB, hBc⟩ := best_exists hF
  have hm : es ∈ ess := List.count_pos_iff.mp (by rw [hcov es hB.1]; decide)
  obtain ⟨_, ez⟩ := chosen_head hB hm hc hz hz2
  have hnd : ess.Nodup := List.nodup_iff_count.mpr fun a => by
    by_cases h : a ∈ ess
    · rw [hcov a (hc a h)]
      exact Nat.le_refl _
    · rw [List.count_eq_zero.mpr h]
      exact Nat.zero_le _
  have eM : ((ess.map fun e => (costO ns m e, e)).filter fun p => decide (p.1 = z)).map (fun p => p.2.reverse) = (ess.filter fun e => decide (costO ns m e = z)).map List.reverse := by
    rw [List.filter_map, List.map_map]
    rfl
  have hmem : ∀ e, e ∈ ess.filter (fun e => decide (costO ns m e = z)) ↔ e ∈ bests ns m := fun e => by
    rw [List.mem_filter, bests_mem hF, decide_eq_true_iff, ez, hBc]
    constructor
    · rintro ⟨h1, h2⟩
      exact ⟨hc e h1, h2⟩
    · rintro ⟨h1, h2⟩
      exact ⟨List.count_pos_iff.mp (by rw [hcov e h1]; decide), h2⟩
  have hp : (ess.filter fun e => decide (costO ns m e = z)).Perm (bests ns m) := (List.perm_ext_iff_of_nodup (hnd.filter _) (bests_nodup hF)).mpr hmem
  have hsort : ((ess.filter fun e => decide (costO ns m e = z)).map List.reverse).mergeSort leN = ((bests ns m).map List.reverse).reverse := by
    refine perm_sorted_eq ((List.mergeSort_perm _ _).trans ((hp.map _).trans (List.reverse_perm _).symm)) ?_ ?_
    · exact (List.pairwise_mergeSort leN_trans leN_total _).imp fun {a b} h => of_decide_eq_true h
    · rw [List.pairwise_reverse, List.pairwise_map]
      exact (bests_desc hF).imp fun {a b} h => List.le_of_lt h
  unfold chosen
  rw [eM, hsort, List.reverse_reverse, List.map_map]
  have : (List.reverse ∘ List.reverse : List Nat → List Nat) = id := by
    funext x
    exact List.reverse_reverse x
  rw [this, List.map_id]
end SL

set_option Elab.async false
set_option linter.all false
set_option maxRecDepth 100000
set_option maxHeartbeats 1000000
/-! Own layer 42: small data of few words: ends, lines, all best layouts. -/
namespace SL
open PySem PySem.Spec PyProof.Rows L2
theorem Sm.small {i : Int} (h0 : 0 ≤ i) (h1 : i < 1024) : Sm 14 0 (.int i) := by
  have h : i.natAbs.log2 ≤ 9 := by
    by_cases z : i.natAbs = 0
    · rw [z]; decide
    · have := (Nat.log2_lt z).mpr (show i.natAbs < 2 ^ 10 by omega)
      omega
  refine ⟨by simp [PyData.showable]; omega, Nat.zero_le _, ?_⟩
  simp only [SL.wt]; omega
theorem sm_endsS {es : List Nat} {k : Nat} (h : ∀ e ∈ es, e ≤ 1000) (hl : es.length ≤ k) : Sm (k * 16 + 3) 1 (tupD es) :=
  Sm.tuple (b := 14) (k := 0) (fun d hd => by
    obtain ⟨x, hx, rfl⟩ := List.mem_map.mp hd
    have := h x hx
    exact Sm.small (by omega) (by omega)) (by rw [List.length_map]; exact hl)
theorem sm_bests {ns : List Int} {m : Int} (hF : Fit m ns) (hl : ns.length ≤ 10) : Sm (1024 * (10 * 16 + 3 + 2) + 3) 2 (.list ((bests ns m).map tupD)) :=
  Sm.list (b := 10 * 16 + 3) (k := 1) (m := 1024) (fun d hd => by
    obtain ⟨es, hes, rfl⟩ := List.mem_map.mp hd
    obtain ⟨hc, _⟩ := (bests_mem hF es).mp hes
    have h1 := hc.len
    exact sm_endsS (k := 10) (fun e he => by have := hc.mem_le e he; omega) (by omega)) (by
      rw [List.length_map]
      have a := bests_many ns m
      have b := Nat.pow_le_pow_right (show 0 < 2 by decide) (show ns.length ≤ 10 from hl)
      omega)
/-- the datum of a pair -/
def pairD (p : Nat × Nat) : PyData := .tuple [.int (p.1 : Int), .int (p.2 : Int)]
theorem sm_lines {ps : List (Nat × Nat)} {k : Nat} (h : ∀ p ∈ ps, p.1 ≤ 1000 ∧ p.2 ≤ 1000) (hl : ps.length ≤ k) : Sm (k * (2 * 16 + 3 + 2) + 3) 2 (.tuple (ps.map pairD)) :=
  Sm.tuple (b := 2 * 16 + 3) (k := 1) (fun d hd => by
    obtain ⟨p, hp, rfl⟩ := List.mem_map.mp hd
    obtain ⟨h1, h2⟩ := h p hp
    exact Sm.tuple (b := 14) (k := 0) (m := 2) (Sm.two (Sm.small (by omega) (by omega)) (Sm.small (by omega) (by omega))) (Nat.le_refl _)) (by rw [List.length_map]; exact hl)
theorem dp_lines {K : PySem.W.Frag} {H : Hp} : ∀ {rs : List V} {ps : List (Nat × Nat)}, AllAt (PrAt H) rs (ps.map pairV) → DpAll K H rs (ps.map pairD)
  | [], [], _ => .nil
  | [], _ :: _, h => nomatch h.1
  | _ :: _, [], h => nomatch h.1
  | x :: xs, p :: ps, h => by
    obtain ⟨a, e, k⟩ := h.2 0 _ rfl
    obtain rfl : x = .ref a := Option.some.inj e
    exact .cons (.tup (SqT.of k) (.cons (.int _) (.cons (.int _) .nil))) (dp_lines h.tail)
end SL

set_option Elab.async false
set_option linter.all false
set_option maxRecDepth 100000
set_option maxHeartbeats 1000000
/-! Own layer 43: the number of the best layouts; small data of many ints. -/
namespace SL
open PySem PySem.Spec PyProof.Rows L2
theorem sum_len_flat {α β : Type} (f : α → List β) : ∀ l : List α, ((l.flatMap f).length : Int) = (l.map fun b => ((f b).length : Int)).sum
  | [] => rfl
  | x :: xs => by
    rw [List.flatMap_cons, List.length_append, List.map_cons, List.sum_cons, ← sum_len_flat f xs]
    omega
theorem sum_map_congr {α : Type} {f g : α → Int} : ∀ {l : List α}, (∀ x ∈ l, f x = g x) → (l.map f).sum = (l.map g).sum
  | [], _ => rfl
  | x :: xs, h => by
    rw [List.map_cons, List.map_cons, List.sum_cons, List.sum_cons, h x (List.mem_cons_self ..), sum_map_congr fun y hy => h y (List.mem_cons_of_mem _ hy)]
theorem cnt_paths (ns : List Int) (m : Int) : ∀ (b e : Nat), b ≤ e → (cnt (nsOf ns) m e).getD b 0 = ((paths ns m b b).length : Int) := by
  intro b
  induction b using Nat.strongRecOn with
  | ind b ih =>
    intro e hb
    match b, ih, hb with
    | 0, _, _ =>
      rw [cnt_pre (Nat.le_refl 0) (Nat.zero_le e)]
      rfl
    | d + 1, ih, hb =>
      rw [cnt_pre (Nat.le_refl _) hb, paths_succ, sum_len_flat]
      show ((cnt (nsOf ns) m d ++ [sumAt (cnt (nsOf ns) m d) (cheap (rate (cs (nsOf ns) m d) (linesF (nsOf ns) (d + 1) (m + 1))))]).getD (d + 1) 0) = _
      rw [getD_last (by rw [cnt_len])]
      show ((bB ns m (d + 1)).map fun b => (cnt (nsOf ns) m d).getD b 0).sum = _
      refine sum_map_congr fun c hc => ?_
      have hl := bB_lt hc
      rw [ih c hl d (by omega), List.length_map]
/-- the number told is that of the best layouts -/
theorem many_bests {ns : List Int} {m : Int} (hF : Fit m ns) : manyE ns m = ((bests ns m).length : Int) := by
  unfold manyE bests
  by_cases h : ns.length = 0
  · rw [if_pos h, if_pos h]
    rfl
  · rw [if_neg h, if_neg h, sum_len_flat]
    unfold many sumAt
    refine sum_map_congr fun b hb => ?_
    rw [List.length_map]
    refine cnt_paths ns m b ns.length ?_
    unfold lastB cheap rate0 at hb
    obtain ⟨x, hx, rfl⟩ := List.mem_map.mp hb
    obtain ⟨p, hp, rfl⟩ := List.mem_map.mp (List.mem_filter.mp hx).1
    have := (linesF_mem (hF.pos (e := ns.length) (Nat.le_refl _)) hp).1
    show p.1 ≤ _
    omega
theorem sm_many {ns : List Int} {m : Int} (hF : Fit m ns) (hl : ns.length ≤ 60) : Sm 104 0 (.int (manyE ns m)) := by
  rw [many_bests hF]
  have a := bests_many ns m
  have b : 2 ^ ns.length ≤ 2 ^ 60 := Nat.pow_le_pow_right (by decide) hl
  exact Sm.int (by omega) (by omega)
/-! sizes, item by item -/
structure SmA (b k : Nat) (ds : List PyData) : Prop where
  sh : PyData.showableAll ds = true
  dp : PyData.depthAll ds ≤ k
  wt : wtAll ds ≤ b
theorem SmA.nil {k : Nat} : SmA 0 k [] := ⟨rfl, Nat.zero_le _, Nat.le_refl _⟩
theorem SmA.cons {b c k : Nat} {d : PyData} {ds : List PyData} (h : Sm b k d) (a : SmA c k ds) : SmA (b + 2 + c) k (d :: ds) := by
  obtain ⟨h1, h2, h3⟩ := h
  obtain ⟨a1, a2, a3⟩ := a
  refine ⟨by simp [PyData.showableAll, h1, a1], ?_, ?_⟩
  · simp only [PyData.depthAll]; omega
  · simp only [wtAll]; omega
theorem SmA.consK {b c k j : Nat} {d : PyData} {ds : List PyData} (h : Sm b j d) (hj : j ≤ k) (a : SmA c k ds) : SmA (b + 2 + c) k (d :: ds) := SmA.cons (h.mono (Nat.le_refl _) hj) a
theorem SmA.list {b k : Nat} {ds : List PyData} (a : SmA b k ds) : Sm (b + 3) (k + 1) (.list ds) := by
  obtain ⟨a1, a2, a3⟩ := a
  refine ⟨by simpa [PyData.showable] using a1, ?_, ?_⟩
  · simp only [PyData.depth]; omega
  · simp only [SL.wt]; omega
theorem SmA.tuple {b k : Nat} {ds : List PyData} (a : SmA b k ds) : Sm (b + 3) (k + 1) (.tuple ds) := by
  obtain ⟨a1, a2, a3⟩ := a
  refine ⟨by simpa [PyData.showable] using a1, ?_, ?_⟩
  · simp only [PyData.depth]; omega
  · simp only [SL.wt]; omega
theorem Sm.bool (b : Bool) : Sm 5 0 (.bool b) := by
  refine ⟨by cases b <;> rfl, Nat.zero_le _, ?_⟩
  simp only [SL.wt]; exact Nat.le_refl _
/-! data stay where all stays -/
mutual
theorem Dp.same {K : PySem.W.Frag} {H H' : Hp} (k : Same H H') : ∀ (d : PyData) {v : V}, Dp K H v d → Dp K H' v d
  | .none, _, h => by cases h; exact .non
  | .bool _, _, h => by cases h; exact .bl _
  | .int _, _, h => by cases h; exact .int _
  | .str _, _, h => by cases h; exact .str _
  | .list ds, _, h => by
    cases h with
    | lst hs ha => exact .lst (L2.Same.seq k hs) (DpAll.same k ds ha)
  | .tuple ds, _, h => by
    cases h with
    | tup hs ha => exact .tup (SL.Same.tup k hs) (DpAll.same k ds ha)
  | .dict _, _, h => by cases h
theorem DpAll.same {K : PySem.W.Frag} {H H' : Hp} (k : Same H H') : ∀ (ds : List PyData) {vs : List V}, DpAll K H vs ds → DpAll K H' vs ds
  | [], _, h => by cases h; exact .nil
  | d :: ds, _, h => by
    cases h with
    | cons a b => exact .cons (Dp.same k d a) (DpAll.same k ds b)
end
theorem DpAll.app {K : PySem.W.Frag} {H : Hp} : ∀ {vs ws : List V} {ds es : List PyData}, DpAll K H vs ds → DpAll K H ws es → DpAll K H (vs ++ ws) (ds ++ es)
  | [], _, [], _, _, h => h
  | _ :: _, _, _ :: _, _, .cons a b, h => .cons a (DpAll.app b h)
theorem _root_.L2.DpAll.stay {K : PySem.W.Frag} {H H' : Hp} {vs : List V} {ds : List PyData} (h : DpAll K H vs ds) (k : Same H H') : DpAll K H' vs ds := SL.DpAll.same k ds h
theorem _root_.L2.Dp.stay {K : PySem.W.Frag} {H H' : Hp} {v : V} {d : PyData} (h : Dp K H v d) (k : Same H H') : Dp K H' v d := SL.Dp.same k d h
theorem _root_.L2.DpAll.add {K : PySem.W.Frag} {H : Hp} {vs ws : List V} {ds es : List PyData} (h : DpAll K H vs ds) (k : DpAll K H ws es) : DpAll K H (vs ++ ws) (ds ++ es) := SL.DpAll.app h k
end SL

set_option Elab.async false
set_option linter.all false
set_option maxRecDepth 100000
set_option maxHeartbeats 1000000
/-! Own layer 44: where the line begins that goes on behind a text; the envelope of lines. -/
namespace SL
open PySem PySem.Spec PyProof.Rows L2
/-- the lines that further words can continue, the latest begin first: (begin, room) -/
def crossF (N : Nat → Int) : Nat → Int → List (Nat × Int)
  | 0, r => if 0 < r then [(0, r)] else []
  | b + 1, r => if 0 < r then (b + 1, r) :: crossF N b (r - (N b + 1)) else []
theorem crossF_le {N : Nat → Int} : ∀ {b : Nat} {r : Int}, (∀ c < b, 0 ≤ N c) → ∀ p ∈ crossF N b r, p.1 ≤ b ∧ 0 < p.2 ∧ p.2 ≤ r
  | 0, r, _ => fun p hp => by
    unfold crossF at hp
    split at hp
    · obtain rfl := List.mem_singleton.mp hp
      exact ⟨Nat.le_refl _, by assumption, Int.le_refl _⟩
    · cases hp
  | b + 1, r, h => fun p hp => by
    unfold crossF at hp
    split at hp
    · rcases List.mem_cons.mp hp with rfl | hp
      · exact ⟨Nat.le_refl _, by assumption, Int.le_refl _⟩
      · obtain ⟨a1, a2, a3⟩ := crossF_le (fun c hc => h c (by omega)) p hp
        have := h b (by omega)
        exact ⟨by omega, a2, by omega⟩
    · cases hp
theorem crossF_pw {N : Nat → Int} : ∀ {b : Nat} {r : Int}, (∀ c < b, 0 ≤ N c) → (crossF N b r).Pairwise fun p q => q.1 < p.1 ∧ q.2 < p.2
  | 0, r, _ => by
    unfold crossF
    split
    · exact List.pairwise_singleton _ _
    · exact List.Pairwise.nil
  | b + 1, r, h => by
    unfold crossF
    split
    · refine List.pairwise_cons.mpr ⟨fun p hp => ?_, crossF_pw fun c hc => h c (by omega)⟩
      obtain ⟨a1, a2, a3⟩ := crossF_le (fun c hc => h c (by omega)) p hp
      have := h b (by omega)
      exact ⟨by show p.1 < b + 1; omega, by show p.2 < r; omega⟩
    · exact List.Pairwise.nil
theorem crossF_lines {N : Nat → Int} {u : Int} (hu : 1 ≤ u) : ∀ {b : Nat} {f : Int}, (∀ c < b, 0 ≤ N c) → 0 ≤ f → ((crossF N b (f + u)).filter fun p => decide (u ≤ p.2)).map (fun p => (p.1, p.2 - u)) = (b, f) :: linesF N b f
  | 0, f, _, hf => by
    unfold crossF linesF
    rw [if_pos (by omega), List.filter_cons_of_pos (by show decide (u ≤ f + u) = true; exact decide_eq_true (by omega))]
    simp
  | b + 1, f, h, hf => by
    unfold crossF linesF
    rw [if_pos (by omega), List.filter_cons_of_pos (by show decide (u ≤ f + u) = true; exact decide_eq_true (by omega)), List.map_cons]
    have e1 : f + u - u = f := by omega
    have e2 : f + u - (N b + 1) = (f - (N b + 1)) + u := by omega
    show (b + 1, f + u - u) :: _ = _
    rw [e1, e2]
    by_cases hb : N b < f
    · rw [if_pos hb, crossF_lines hu (fun c hc => h c (by omega)) (by omega)]
    · rw [if_neg hb]
      have : ((crossF N b (f - (N b + 1) + u)).filter fun p => decide (u ≤ p.2)) = [] := List.filter_eq_nil_iff.mpr fun p hp => by
        obtain ⟨_, _, a3⟩ := crossF_le (fun c hc => h c (by omega)) p hp
        simp
        omega
      rw [this]
      rfl
/-- the first of the cheapest, by comparison -/
theorem hd_first {ls : List (Nat × Int)} {g : Nat × Int → Int} (hp : ls.Pairwise (fun p q => q.1 < p.1)) {p : Nat × Int} (hm : p ∈ ls) (h : ∀ q ∈ ls, g p ≤ g q ∧ (p.1 < q.1 → g p < g q)) : hd (ls.map fun p => (g p, p.1)) = p.1 := by
  obtain ⟨x, hx, h1, h2⟩ := hd_mem (rs := ls.map fun p => (g p, p.1)) (fun z => by rw [List.map_eq_nil_iff.mp z] at hm; cases hm)
  obtain ⟨q, hq, rfl⟩ := List.mem_map.mp hx
  obtain ⟨a1, a2⟩ := h q hq
  have hle : least (ls.map fun p => (g p, p.1)) ≤ g p := (least_spec (rs := ls.map fun p => (g p, p.1)) (fun z => by rw [List.map_eq_nil_iff.mp z] at hm; cases hm)).2 _ (List.mem_map.mpr ⟨p, hm, rfl⟩)
  have h2 : g q = least (ls.map fun p => (g p, p.1)) := h2
  have e : g p = g q := by omega
  have hmx := hd_max hp hm (e.trans h2)
  have h1 : q.1 = _ := h1
  by_cases hlt : p.1 < q.1
  · have := a2 hlt
    omega
  · omega
/-! ### where the next line begins -/
/-- behind it a word u that is the last of its line; the last of the text -/
def startC (ns : List Int) (m u : Int) : Nat := fB (nsOf (ns ++ [u])) m (ns.length + 1)
def startO (ns : List Int) (m u : Int) : Nat := lB (ns ++ [u]) m
def crs (ns : List Int) (m : Int) : List (Nat × Int) := crossF (nsOf ns) ns.length m
def csN (ns : List Int) (m : Int) (b : Nat) : Int := (cs (nsOf ns) m ns.length).getD b 0
theorem nsOf_app {ns ms : List Int} {b : Nat} (h : b < ns.length) : nsOf (ns ++ ms) b = nsOf ns b := by
  unfold nsOf
  rw [List.getD_eq_getElem?_getD, List.getD_eq_getElem?_getD, List.getElem?_append_left h]
theorem nsOf_end {ns : List Int} {u : Int} : nsOf (ns ++ [u]) ns.length = u := by
  unfold nsOf
  rw [List.getD_eq_getElem?_getD, List.getElem?_append_right (Nat.le_refl _)]
  simp
theorem lines_ext {ns : List Int} {m u : Int} (hF : Fit m ns) (h1 : 1 ≤ u) (h2 : u ≤ m) : linesF (nsOf (ns ++ [u])) (ns.length + 1) (m + 1) = ((crs ns m).filter fun p => decide (u ≤ p.2)).map (fun p => (p.1, p.2 - u)) := by
  have hp : ∀ c < ns.length, 0 ≤ nsOf ns c := fun c hc => by have := (hF c hc).1; omega
  unfold crs
  rw [show m = (m - u) + u by omega, crossF_lines h1 hp (by omega)]
  rw [show linesF (nsOf (ns ++ [u])) (ns.length + 1) (m - u + u + 1) = if nsOf (ns ++ [u]) ns.length < (m - u + u + 1) then (ns.length, (m - u + u + 1) - (nsOf (ns ++ [u]) ns.length + 1)) :: linesF (nsOf (ns ++ [u])) ns.length ((m - u + u + 1) - (nsOf (ns ++ [u]) ns.length + 1)) else [] from rfl]
  rw [nsOf_end, if_pos (by omega), show m - u + u + 1 - (u + 1) = m - u by omega, linesF_congr fun b hb => nsOf_app hb]
theorem cs_ext {ns ms : List Int} {m : Int} {b : Nat} (hb : b ≤ ns.length) : (cs (nsOf (ns ++ ms)) m (ns ++ ms).length).getD b 0 = csN ns m b := by
  unfold csN
  rw [cs_pre hb (by rw [List.length_append]; omega), cs_congr fun c hc => nsOf_app hc]
theorem crs_le {ns : List Int} {m : Int} (hF : Fit m ns) {p : Nat × Int} (h : p ∈ crs ns m) : p.1 ≤ ns.length ∧ 0 < p.2 ∧ p.2 ≤ m := crossF_le (fun c hc => by have := (hF c hc).1; omega) p h
theorem crs_pw {ns : List Int} {m : Int} (hF : Fit m ns) : (crs ns m).Pairwise fun p q => q.1 < p.1 ∧ q.2 < p.2 := crossF_pw (fun c hc => by have := (hF c hc).1; omega)
/-- of a closed line: the cost ahead and the square of its gap -/
def vC (ns : List Int) (m : Int) (p : Nat × Int) (u : Int) : Int := csN ns m p.1 + (p.2 - u) ^ 2
def vO (ns : List Int) (m : Int) (p : Nat × Int) (_ : Int) : Int := csN ns m p.1
/-- of the lines with room for u the latest of the cheapest -/
def IsPick (val : Nat × Int → Int → Int) (L : List (Nat × Int)) (u : Int) (x : Nat × Int) : Prop :=
  x ∈ L ∧ u ≤ x.2 ∧ ∀ y ∈ L, u ≤ y.2 → val x u ≤ val y u ∧ (x.1 < y.1 → val x u < val y u)
theorem pick_closed {ns : List Int} {m u : Int} (hF : Fit m ns) (h1 : 1 ≤ u) (h2 : u ≤ m) {x : Nat × Int} (h : IsPick (vC ns m) (crs ns m) u x) : startC ns m u = x.1 := by
  obtain ⟨hx, hu, hy⟩ := h
  show hd (rate (cs (nsOf (ns ++ [u])) m ns.length) (linesF (nsOf (ns ++ [u])) (ns.length + 1) (m + 1))) = _
  rw [lines_ext hF h1 h2, cs_congr fun c hc => nsOf_app hc]
  unfold rate
  have pw : (((crs ns m).filter fun p => decide (u ≤ p.2)).map (fun p => (p.1, p.2 - u))).Pairwise (fun p q => q.1 < p.1) :=
    List.Pairwise.map _ (fun _ _ h => h) (((crs_pw hF).imp fun h => h.1).filter _)
  refine hd_first (p := (x.1, x.2 - u)) (g := fun p => (cs (nsOf ns) m ns.length).getD p.1 0 + p.2 ^ 2) pw (List.mem_map.mpr ⟨x, List.mem_filter.mpr ⟨hx, decide_eq_true hu⟩, rfl⟩) fun q hq => ?_
  obtain ⟨y, hym, rfl⟩ := List.mem_map.mp hq
  obtain ⟨hy1, hy2⟩ := List.mem_filter.mp hym
  exact hy y hy1 (of_decide_eq_true hy2)
theorem pick_open {ns : List Int} {m u : Int} (hF : Fit m ns) (h1 : 1 ≤ u) (h2 : u ≤ m) {x : Nat × Int} (h : IsPick (vO ns m) (crs ns m) u x) : startO ns m u = x.1 := by
  obtain ⟨hx, hu, hy⟩ := h
  show hd (rate0 (cs (nsOf (ns ++ [u])) m (ns ++ [u]).length) (linesF (nsOf (ns ++ [u])) (ns ++ [u]).length (m + 1))) = _
  rw [show (ns ++ [u]).length = ns.length + 1 from by simp, lines_ext hF h1 h2]
  unfold rate0
  have pw : (((crs ns m).filter fun p => decide (u ≤ p.2)).map (fun p => (p.1, p.2 - u))).Pairwise (fun p q => q.1 < p.1) :=
    List.Pairwise.map _ (fun _ _ h => h) (((crs_pw hF).imp fun h => h.1).filter _)
  have ee : ∀ q : Nat × Int, q ∈ (((crs ns m).filter fun p => decide (u ≤ p.2)).map (fun p => (p.1, p.2 - u))) → (cs (nsOf (ns ++ [u])) m (ns.length + 1)).getD q.1 0 = csN ns m q.1 := fun q hq => by
    obtain ⟨y, hym, rfl⟩ := List.mem_map.mp hq
    have := (crs_le hF (List.mem_filter.mp hym).1).1
    have e := cs_ext (ms := [u]) (m := m) this
    rwa [show (ns ++ [u]).length = ns.length + 1 from by simp] at e
  have hxm : (x.1, x.2 - u) ∈ (((crs ns m).filter fun p => decide (u ≤ p.2)).map (fun p => (p.1, p.2 - u))) := List.mem_map.mpr ⟨x, List.mem_filter.mpr ⟨hx, decide_eq_true hu⟩, rfl⟩
  refine hd_first (p := (x.1, x.2 - u)) (g := fun p => (cs (nsOf (ns ++ [u])) m (ns.length + 1)).getD p.1 0) pw hxm fun q hq => ?_
  show (cs (nsOf (ns ++ [u])) m (ns.length + 1)).getD (x.1, x.2 - u).1 0 ≤ (cs (nsOf (ns ++ [u])) m (ns.length + 1)).getD q.1 0 ∧ _
  rw [ee _ hxm, ee _ hq]
  obtain ⟨y, hym, rfl⟩ := List.mem_map.mp hq
  obtain ⟨hy1, hy2⟩ := List.mem_filter.mp hym
  exact hy y hy1 (of_decide_eq_true hy2)
/-! ### the envelope -/
/-- lim c x: the greatest length up to which c costs less than the later x -/
def LimOk (val : Nat × Int → Int → Int) (lim : Nat × Int → Nat × Int → Int) (L : List (Nat × Int)) : Prop :=
  ∀ c ∈ L, ∀ x ∈ L, c.2 < x.2 → ∀ u, 1 ≤ u → (u ≤ lim c x ↔ u ≤ c.2 ∧ val c u < val x u)
/-- what is kept (the lowest lengths first) tells the picks of L for the lengths up to M -/
structure EnvOk (val : Nat × Int → Int → Int) (M : Int) (L : List (Nat × Int)) (kept : List (Int × (Nat × Int))) : Prop where
  at_ : ∀ u, 1 ≤ u → u ≤ M → ∃ d e k, kept = d ++ e :: k ∧ (∀ x ∈ d, x.1 < u) ∧ u ≤ e.1 ∧ IsPick val L u e.2
  pw : kept.Pairwise fun e f => e.1 < f.1 ∧ e.2.1 < f.2.1
  mem : ∀ e ∈ kept, e.2 ∈ L ∧ 0 < e.1 ∧ e.1 ≤ M
  last : ∃ d x, kept = d ++ [(M, x)] ∧ x.2 = M
theorem EnvOk.step {val : Nat × Int → Int → Int} {lim : Nat × Int → Nat × Int → Int} {M : Int} {L Lall : List (Nat × Int)} {kept d k : List (Int × (Nat × Int))} {y : Int × (Nat × Int)} {c : Nat × Int}
    (E : EnvOk val M L kept) (hl : LimOk val lim Lall) (hsub : ∀ x ∈ L, x ∈ Lall) (hc : c ∈ Lall) (hroom : ∀ x ∈ L, c.1 < x.1 ∧ c.2 < x.2) (hk : kept = d ++ y :: k)
    (hd : ∀ x ∈ d, x.1 ≤ lim c x.2) (hy : lim c y.2 < y.1) :
    EnvOk val M (L ++ [c]) (if 0 < lim c y.2 then (lim c y.2, c) :: y :: k else y :: k) := by
  have hymem := E.mem y (by rw [hk]; simp)
  have hlim : ∀ x ∈ L, ∀ u, 1 ≤ u → (u ≤ lim c x ↔ u ≤ c.2 ∧ val c u < val x u) := fun x hx u hu => hl c hc x (hsub x hx) (hroom x hx).2 u hu
  have pwE := E.pw
  rw [hk] at pwE
  have pwk := (List.pairwise_append.mp pwE).2.1
  have toC : ∀ {u : Int} {x : Nat × Int}, 1 ≤ u → IsPick val L u x → u ≤ lim c x → IsPick val (L ++ [c]) u c := fun {u x} hu hp hle => by
    obtain ⟨p1, p2, p3⟩ := hp
    obtain ⟨b1, b2⟩ := (hlim x p1 u hu).mp hle
    refine ⟨by simp, b1, fun z hz hzu => ?_⟩
    rcases List.mem_append.mp hz with hz | hz
    · have := (p3 z hz hzu).1
      exact ⟨by omega, fun _ => by omega⟩
    · obtain rfl := List.mem_singleton.mp hz
      exact ⟨Int.le_refl _, fun h => by omega⟩
  have stay : ∀ {u : Int} {x : Nat × Int}, 1 ≤ u → IsPick val L u x → ¬ u ≤ lim c x → IsPick val (L ++ [c]) u x := fun {u x} hu hp hle => by
    obtain ⟨p1, p2, p3⟩ := hp
    refine ⟨by simp [p1], p2, fun z hz hzu => ?_⟩
    rcases List.mem_append.mp hz with hz | hz
    · exact p3 z hz hzu
    · obtain rfl := List.mem_singleton.mp hz
      have h1 := (hroom x p1).1
      refine ⟨?_, fun h => by omega⟩
      by_cases hv : val z u < val x u
      · exact absurd ((hlim x p1 u hu).mpr ⟨hzu, hv⟩) hle
      · omega
  refine ⟨fun u hu1 huM => ?_, ?_, ?_, ?_⟩
  · obtain ⟨d', e, k', he, hd', hue, hp⟩ := E.at_ u hu1 huM
    -- is e dropped?
    rw [hk] at he
    rcases List.append_eq_append_iff.mp he with ⟨t, e1, e2⟩ | ⟨t, e1, e2⟩
    · -- d' = d ++ t, y :: k = t ++ e :: k'
      have hdd : ∀ x ∈ d, x.1 < u := fun x hx => hd' x (by rw [e1]; simp [hx])
      match t, e2 with
      | [], e2 =>
        obtain ⟨rfl, rfl⟩ : y = e ∧ k = k' := by simpa using e2
        by_cases hle : u ≤ lim c y.2
        · have h0 : 0 < lim c y.2 := by omega
          rw [if_pos h0]
          exact ⟨[], (lim c y.2, c), y :: k, rfl, (fun _ z => nomatch z), hle, toC hu1 hp hle⟩
        · have hst := stay hu1 hp hle
          split
          · exact ⟨[(lim c y.2, c)], y, k, rfl, (fun x hx => by obtain rfl := List.mem_singleton.mp hx; show lim c y.2 < u; omega), hue, hst⟩
          · exact ⟨[], y, k, rfl, (fun _ z => nomatch z), hue, hst⟩
      | y' :: t, e2 =>
        obtain ⟨rfl, e3⟩ : y = y' ∧ k = t ++ e :: k' := by simpa using e2
        have hyu : y.1 < u := hd' y (by rw [e1]; simp)
        have hno : ¬ u ≤ lim c e.2 := fun hle => by
          obtain ⟨b1, b2⟩ := (hlim e.2 hp.1 u hu1).mp hle
          have := (hp.2.2 y.2 hymem.1 (by have := (hroom _ hymem.1).2; omega)).1
          have := (hlim y.2 hymem.1 u hu1).mpr ⟨b1, by omega⟩
          omega
        have hst := stay hu1 hp hno
        have hyt : ∀ x ∈ y :: t, x.1 < u := fun x hx => hd' x (by rw [e1]; exact List.mem_append_right _ hx)
        split
        · refine ⟨(lim c y.2, c) :: y :: t, e, k', by rw [e3]; rfl, fun x hx => ?_, hue, hst⟩
          rcases List.mem_cons.mp hx with rfl | hx
          · show lim c y.2 < u; omega
          · exact hyt x hx
        · exact ⟨y :: t, e, k', by rw [e3]; rfl, hyt, hue, hst⟩
    · -- d = d' ++ t, e :: k' = t ++ y :: k
      match t, e2 with
      | [], e2 =>
        obtain ⟨rfl, rfl⟩ : e = y ∧ k' = k := by simpa using e2
        by_cases hle : u ≤ lim c e.2
        · have h0 : 0 < lim c e.2 := by omega
          rw [if_pos h0]
          exact ⟨[], (lim c e.2, c), e :: k', rfl, (fun _ z => nomatch z), hle, toC hu1 hp hle⟩
        · have hst := stay hu1 hp hle
          split
          · exact ⟨[(lim c e.2, c)], e, k', rfl, (fun x hx => by obtain rfl := List.mem_singleton.mp hx; show lim c e.2 < u; omega), hue, hst⟩
          · exact ⟨[], e, k', rfl, (fun _ z => nomatch z), hue, hst⟩
      | e' :: t, e2 =>
        obtain ⟨rfl, e3⟩ : e = e' ∧ k' = t ++ y :: k := by simpa using e2
        have hed : e ∈ d := by rw [e1]; simp
        have hle : u ≤ lim c e.2 := by have := hd e hed; omega
        have hpc := toC hu1 hp hle
        obtain ⟨b1, b2⟩ := (hlim e.2 hp.1 u hu1).mp hle
        have hv := (hp.2.2 y.2 hymem.1 (by have := (hroom _ hymem.1).2; omega)).1
        have hly : u ≤ lim c y.2 := (hlim y.2 hymem.1 u hu1).mpr ⟨b1, by omega⟩
        rw [if_pos (show 0 < lim c y.2 by omega)]
        exact ⟨[], (lim c y.2, c), y :: k, rfl, (fun _ z => nomatch z), hly, hpc⟩
  · split
    · refine List.pairwise_cons.mpr ⟨fun x hx => ?_, pwk⟩
      have hxm := (E.mem x (by rw [hk]; exact List.mem_append_right _ hx)).1
      refine ⟨?_, (hroom _ hxm).1⟩
      show lim c y.2 < x.1
      rcases List.mem_cons.mp hx with rfl | hx
      · exact hy
      · have := ((List.pairwise_cons.mp pwk).1 x hx).1
        omega
    · exact pwk
  · intro e he
    have old : ∀ e ∈ y :: k, e.2 ∈ L ++ [c] ∧ 0 < e.1 ∧ e.1 ≤ M := fun e he => by
      obtain ⟨a, b⟩ := E.mem e (by rw [hk]; exact List.mem_append_right _ he)
      exact ⟨by simp [a], b⟩
    split at he
    · rcases List.mem_cons.mp he with rfl | he
      · exact ⟨by simp, by assumption, by show lim c y.2 ≤ M; have := hymem.2.2; omega⟩
      · exact old e he
    · exact old e he
  · obtain ⟨d', x, e1, e2⟩ := E.last
    rw [hk] at e1
    have hyk : ∃ d2, y :: k = d2 ++ [(M, x)] := by
      rcases List.append_eq_append_iff.mp e1 with ⟨t, a1, a2⟩ | ⟨t, a1, a2⟩
      · exact ⟨t, a2⟩
      · match t, a2 with
        | [], a2 => exact ⟨[], by simpa using a2.symm⟩
        | _ :: _, a2 => simp at a2
    obtain ⟨d2, e3⟩ := hyk
    rw [e3]
    split
    · exact ⟨(lim c y.2, c) :: d2, x, rfl, e2⟩
    · exact ⟨d2, x, rfl, e2⟩
end SL

set_option Elab.async false
set_option linter.all false
set_option maxRecDepth 100000
set_option maxHeartbeats 1000000
/-! Own layer 45: ranges of next words; the starts of futures. -/
namespace SL
open PySem PySem.Spec PyProof.Rows L2
/-! ### limits -/
def limC (ns : List Int) (m : Int) (c x : Nat × Int) : Int :=
  let q := (csN ns m x.1 + x.2 ^ 2 - csN ns m c.1 - c.2 ^ 2 - 1) / (2 * (x.2 - c.2))
  if q < c.2 then q else c.2
def limO (ns : List Int) (m : Int) (c x : Nat × Int) : Int := if csN ns m c.1 < csN ns m x.1 then c.2 else 0
theorem sq_diff (r u : Int) : (r - u) ^ 2 = r ^ 2 - 2 * r * u + u ^ 2 := by grind
theorem limC_ok (ns : List Int) (m : Int) (L : List (Nat × Int)) : LimOk (vC ns m) (limC ns m) L := by
  intro c _ x _ hr u hu
  unfold limC vC
  generalize csN ns m x.1 = cx
  generalize csN ns m c.1 = cc
  rw [sq_diff c.2 u, sq_diff x.2 u]
  have hd : 0 < 2 * (x.2 - c.2) := by omega
  have key : cc + (c.2 ^ 2 - 2 * c.2 * u + u ^ 2) < cx + (x.2 ^ 2 - 2 * x.2 * u + u ^ 2) ↔ u * (2 * (x.2 - c.2)) ≤ cx + x.2 ^ 2 - cc - c.2 ^ 2 - 1 := by
    have e : u * (2 * (x.2 - c.2)) = 2 * x.2 * u - 2 * c.2 * u := by grind
    rw [e]
    omega
  have k2 : u ≤ (cx + x.2 ^ 2 - cc - c.2 ^ 2 - 1) / (2 * (x.2 - c.2)) ↔ u * (2 * (x.2 - c.2)) ≤ cx + x.2 ^ 2 - cc - c.2 ^ 2 - 1 := Int.le_ediv_iff_mul_le hd
  rw [key, ← k2]
  dsimp only
  split <;> omega
theorem limO_ok (ns : List Int) (m : Int) (L : List (Nat × Int)) : LimOk (vO ns m) (limO ns m) L := by
  intro c _ x _ hr u hu
  unfold limO vO
  split <;> omega
/-! ### ranges -/
inductive Cov (f : Int → Nat) (m : Int) : Int → List (Int × Int × Nat) → Prop
  | nil : Cov f m (m + 1) []
  | cons {lo hi : Int} {b : Nat} {R : List (Int × Int × Nat)} : lo ≤ hi → hi ≤ m → (∀ u, lo ≤ u → u ≤ hi → f u = b) → Cov f m (hi + 1) R → Cov f m lo ((lo, hi, b) :: R)
/-- the ranges (low, high, start) of f for the lengths from 1 to m, the starts ascending -/
structure RangesFor (m : Int) (f : Int → Nat) (R : List (Int × Int × Nat)) : Prop where
  cov : Cov f m 1 R
  pw : R.Pairwise fun p q => p.2.2 < q.2.2
theorem Cov.low {f : Int → Nat} {m lo : Int} {R : List (Int × Int × Nat)} (h : Cov f m lo R) : lo ≤ m + 1 ∧ (R = [] → lo = m + 1) := by
  cases h with
  | nil => exact ⟨Int.le_refl _, fun _ => rfl⟩
  | cons h1 h2 _ _ => exact ⟨by omega, fun z => nomatch z⟩
theorem Cov.uni {f : Int → Nat} {m lo : Int} : ∀ {R R' : List (Int × Int × Nat)}, Cov f m lo R → Cov f m lo R' → (R.Pairwise fun p q => p.2.2 < q.2.2) → (R'.Pairwise fun p q => p.2.2 < q.2.2) → R = R'
  | [], [], _, _, _, _ => rfl
  | [], _ :: _, h, h', _, _ => by
    have := h.low.2 rfl
    cases h' with
    | cons a b _ _ => omega
  | _ :: _, [], h, h', _, _ => by
    have := h'.low.2 rfl
    cases h with
    | cons a b _ _ => omega
  | p :: R, q :: R', h, h', w, w' => by
    cases h with
    | @cons lo hi b R a1 a2 a3 a4 =>
      cases h' with
      | @cons _ hi' b' R' b1 b2 b3 b4 =>
        have eb : b = b' := (a3 lo (Int.le_refl _) a1).symm.trans (b3 lo (Int.le_refl _) b1)
        subst eb
        have no : ∀ {x y z0 : Int} {S : List (Int × Int × Nat)}, lo ≤ x → x < y → y ≤ m → (∀ u, lo ≤ u → u ≤ y → f u = b) → Cov f m z0 S → z0 = x + 1 → (∀ p ∈ S, b < p.2.2) → False := fun {x y z0 S} h0 h1 h2 h3 h4 hz h5 => by
          cases h4 with
          | nil => omega
          | @cons _ z c S c1 c2 c3 c4 =>
            have e := h5 _ (List.mem_cons_self ..)
            have e1 := c3 (x + 1) (by omega) (by omega)
            have e2 := h3 (x + 1) (by omega) (by omega)
            have e : b < c := e
            omega
        obtain ⟨w1, w2⟩ := List.pairwise_cons.mp w
        obtain ⟨v1, v2⟩ := List.pairwise_cons.mp w'
        have eh : hi = hi' := by
          rcases Int.lt_trichotomy hi hi' with h | h | h
          · exact (no a1 h b2 b3 a4 rfl w1).elim
          · exact h
          · exact (no b1 h a2 a3 b4 rfl v1).elim
        subst eh
        rw [Cov.uni a4 b4 w2 v2]
theorem RangesFor.uni {m : Int} {f : Int → Nat} {R R' : List (Int × Int × Nat)} (h : RangesFor m f R) (h' : RangesFor m f R') : R = R' := Cov.uni h.cov h'.cov h.pw h'.pw
theorem Cov.mem {f : Int → Nat} {m lo : Int} {R : List (Int × Int × Nat)} (h : Cov f m lo R) : ∀ p ∈ R, lo ≤ p.1 ∧ p.1 ≤ p.2.1 ∧ p.2.1 ≤ m ∧ ∀ u, p.1 ≤ u → u ≤ p.2.1 → f u = p.2.2 := by
  induction h with
  | nil => intro p hp; cases hp
  | @cons lo hi b R a1 a2 a3 a4 ih =>
    intro p hp
    rcases List.mem_cons.mp hp with rfl | hp
    · exact ⟨Int.le_refl _, a1, a2, a3⟩
    · obtain ⟨i1, i2⟩ := ih p hp
      exact ⟨by omega, i2⟩
theorem Cov.at_ {f : Int → Nat} {m lo : Int} {R : List (Int × Int × Nat)} (h : Cov f m lo R) : ∀ u, lo ≤ u → u ≤ m → ∃ p ∈ R, p.1 ≤ u ∧ u ≤ p.2.1 ∧ f u = p.2.2 := by
  induction h with
  | nil => intro u h1 h2; omega
  | @cons lo hi b R a1 a2 a3 a4 ih =>
    intro u h1 h2
    by_cases hu : u ≤ hi
    · exact ⟨_, List.mem_cons_self .., h1, hu, a3 u h1 hu⟩
    · obtain ⟨p, hp, r⟩ := ih u (by omega) h2
      exact ⟨p, List.mem_cons_of_mem _ hp, r⟩
def rgs : Int → List (Int × (Nat × Int)) → List (Int × Int × Nat)
  | _, [] => []
  | lo, e :: k => (lo, e.1, e.2.1) :: rgs (e.1 + 1) k
theorem rgs_cov {val : Nat × Int → Int → Int} {m : Int} {L : List (Nat × Int)} {kept : List (Int × (Nat × Int))} {f : Int → Nat} (E : EnvOk val m L kept) (hf : ∀ u, 1 ≤ u → u ≤ m → ∀ x, IsPick val L u x → f u = x.1) :
    ∀ (k d : List (Int × (Nat × Int))) (lo : Int), kept = d ++ k → 1 ≤ lo → (∀ x ∈ d, x.1 < lo) → (k = [] → lo = m + 1) → (∀ x ∈ k, lo ≤ x.1) → Cov f m lo (rgs lo k)
  | [], d, lo, _, _, _, h, _ => by
    rw [h rfl]
    exact .nil
  | e :: k, d, lo, hk, hlo, hd, _, hkk => by
    have he := hkk e (List.mem_cons_self ..)
    have hem := E.mem e (by rw [hk]; exact List.mem_append_right _ (List.mem_cons_self ..))
    have pw := E.pw
    rw [hk] at pw
    have pwk := (List.pairwise_append.mp pw).2.1
    obtain ⟨pe, pk⟩ := List.pairwise_cons.mp pwk
    have pd := (List.pairwise_append.mp pw).2.2
    refine .cons he hem.2.2 (fun u h1 h2 => ?_) ?_
    · obtain ⟨d', e', k', e1, hd', hu', hp⟩ := E.at_ u (by omega) (by omega)
      rw [hf u (by omega) (by omega) _ hp]
      rw [hk] at e1
      have hee : e' = e := by
        rcases List.append_eq_append_iff.mp e1 with ⟨t, a1, a2⟩ | ⟨t, a1, a2⟩
        · match t, a2 with
          | [], a2 => exact (List.cons.inj a2).1.symm
          | y :: t, a2 =>
            obtain ⟨rfl, _⟩ : e = y ∧ _ := by simpa using a2
            have := hd' e (by rw [a1]; exact List.mem_append_right _ (List.mem_cons_self ..))
            omega
        · match t, a2 with
          | [], a2 => exact (List.cons.inj a2).1
          | y :: t, a2 =>
            obtain ⟨rfl, _⟩ : e' = y ∧ _ := by simpa using a2
            have := hd e' (by rw [a1]; exact List.mem_append_right _ (List.mem_cons_self ..))
            omega
      rw [hee]
    · refine rgs_cov E hf k (d ++ [e]) (e.1 + 1) (by rw [hk]; simp) (by omega) (fun x hx => ?_) (fun hk0 => ?_) (fun x hx => ?_)
      · rcases List.mem_append.mp hx with hx | hx
        · have := hd x hx
          omega
        · obtain rfl := List.mem_singleton.mp hx
          omega
      · obtain ⟨d2, x, e2, _⟩ := E.last
        rw [hk, hk0] at e2
        have := List.append_inj' e2 rfl
        obtain ⟨_, e3⟩ := this
        obtain rfl : e = (m, x) := by simpa using e3
        rfl
      · have := (pe x hx).1
        omega
theorem rgs_pw : ∀ {lo : Int} {k : List (Int × (Nat × Int))}, (k.Pairwise fun e f => e.1 < f.1 ∧ e.2.1 < f.2.1) → (rgs lo k).Pairwise fun p q => p.2.2 < q.2.2
  | _, [], _ => .nil
  | lo, e :: k, h => by
    obtain ⟨h1, h2⟩ := List.pairwise_cons.mp h
    refine List.pairwise_cons.mpr ⟨?_, rgs_pw h2⟩
    have : ∀ {lo : Int} {k : List (Int × (Nat × Int))}, (∀ x ∈ k, e.2.1 < x.2.1) → ∀ q ∈ rgs lo k, e.2.1 < q.2.2 := by
      intro lo k
      induction k generalizing lo with
      | nil => intro _ q hq; cases hq
      | cons y k ih =>
        intro hx q hq
        rcases List.mem_cons.mp hq with rfl | hq
        · exact hx y (List.mem_cons_self ..)
        · exact ih (fun x hx' => hx x (List.mem_cons_of_mem _ hx')) q hq
    exact this fun x hx => (h1 x hx).2
theorem ranges_of {val : Nat × Int → Int → Int} {m : Int} {L : List (Nat × Int)} {kept : List (Int × (Nat × Int))} {f : Int → Nat} (E : EnvOk val m L kept) (hf : ∀ u, 1 ≤ u → u ≤ m → ∀ x, IsPick val L u x → f u = x.1) : RangesFor m f (rgs 1 kept) := by
  refine ⟨rgs_cov E hf kept [] 1 rfl (Int.le_refl _) (fun _ z => nomatch z) (fun z => ?_) (fun x hx => by have := (E.mem x hx).2.1; omega), rgs_pw E.pw⟩
  obtain ⟨d, x, e, _⟩ := E.last
  rw [z] at e
  simp at e
end SL

set_option Elab.async false
set_option linter.all false
set_option maxRecDepth 100000
set_option maxHeartbeats 1000000
/-! Own layer 46: the best layout of a text and a future. -/
namespace SL
open PySem PySem.Spec PyProof.Rows L2
theorem lenL_add {L : List Int} {b c e : Nat} (h1 : b < c) (h2 : c < e) (h3 : e ≤ L.length) : lenL L b e = lenL L b c + 1 + lenL L c e := by
  unfold lenL
  have e1 : (L.drop b).take (e - b) = (L.drop b).take (c - b) ++ (L.drop c).take (e - c) := by
    rw [show e - b = (c - b) + (e - c) by omega, List.take_add, List.drop_drop, show b + (c - b) = c by omega]
  rw [e1, List.sum_append]
  omega
theorem lenL_appl {ns ms : List Int} {lo hi : Nat} (h : hi ≤ ns.length) : lenL (ns ++ ms) lo hi = lenL ns lo hi := by
  unfold lenL
  by_cases hl : lo ≤ hi
  · rw [List.drop_append_of_le_length (by omega), List.take_append_of_le_length (by rw [List.length_drop]; omega)]
  · rw [show hi - lo = 0 by omega]
    simp
theorem lenL_last {ns : List Int} {u : Int} : lenL (ns ++ [u]) ns.length (ns.length + 1) = u := by
  rw [lenL_one (by simp), nsOf_end]
/-- the words behind a text up to e are, to the lines before them, as one word -/
theorem merge {ns fs : List Int} {b e : Nat} (he : ns.length < e) (hl : e ≤ (ns ++ fs).length) (hb : b ≤ ns.length) : lenL (ns ++ [lenL (ns ++ fs) ns.length e]) b (ns.length + 1) = lenL (ns ++ fs) b e := by
  by_cases h : b = ns.length
  · rw [h, lenL_last]
  · have e1 := lenL_add (L := ns ++ [lenL (ns ++ fs) ns.length e]) (b := b) (c := ns.length) (e := ns.length + 1) (by omega) (by omega) (by simp)
    have e2 := lenL_add (L := ns ++ fs) (b := b) (c := ns.length) (e := e) (by omega) he hl
    rw [e1, e2, lenL_last, lenL_appl (Nat.le_refl _), lenL_appl (Nat.le_refl _)]
theorem fit_left {m : Int} {ns fs : List Int} (h : Fit m (ns ++ fs)) : Fit m ns := fun b hb => by
  have := h b (by rw [List.length_append]; omega)
  rwa [nsOf_app hb] at this
theorem fit_push {m u : Int} {ns : List Int} (h : Fit m ns) (h1 : 1 ≤ u) (h2 : u ≤ m) : Fit m (ns ++ [u]) := fit_of fun x hx => by
  rcases List.mem_append.mp hx with hx | hx
  · exact fit_all h x hx
  · obtain rfl := List.mem_singleton.mp hx
    exact ⟨h1, h2⟩
theorem fB_spec {ns : List Int} {m : Int} (hF : Fit m ns) {e : Nat} (he : e < ns.length) :
    fB (nsOf ns) m (e + 1) ≤ e ∧ lenL ns (fB (nsOf ns) m (e + 1)) (e + 1) ≤ m ∧ ∀ b ≤ e, lenL ns b (e + 1) ≤ m →
      (cs (nsOf ns) m e).getD (fB (nsOf ns) m (e + 1)) 0 + (m - lenL ns (fB (nsOf ns) m (e + 1)) (e + 1)) ^ 2 ≤ (cs (nsOf ns) m e).getD b 0 + (m - lenL ns b (e + 1)) ^ 2 ∧
      (fB (nsOf ns) m (e + 1) < b → (cs (nsOf ns) m e).getD (fB (nsOf ns) m (e + 1)) 0 + (m - lenL ns (fB (nsOf ns) m (e + 1)) (e + 1)) ^ 2 < (cs (nsOf ns) m e).getD b 0 + (m - lenL ns b (e + 1)) ^ 2) := by
  obtain ⟨p, hp, h1, h2⟩ := fB_line hF he
  have hlt := fB_lt hF he
  have hg := line_gap (m := m) (show e + 1 ≤ ns.length by omega) p hp
  have hpm := linesF_mem (hF.pos (e := e + 1) (by omega)) hp
  rw [← h1]
  refine ⟨by omega, by omega, fun b hb hl => ?_⟩
  have hin := line_in (fit_pos hF) (show e + 1 ≤ ns.length by omega) hl (k := e + 1) (f := m + 1) (by omega) (Nat.le_refl _) (fun h => by omega) (fun _ => rfl)
  have hne : rate (cs (nsOf ns) m e) (linesF (nsOf ns) (e + 1) (m + 1)) ≠ [] := fun z => by
    rw [rate_nil.mp z] at hp
    cases hp
  have hle := (least_spec hne).2 _ (List.mem_map.mpr ⟨_, hin, rfl⟩)
  have hle : least (rate (cs (nsOf ns) m e) (linesF (nsOf ns) (e + 1) (m + 1))) ≤ (cs (nsOf ns) m e).getD b 0 + (m - lenL ns b (e + 1)) ^ 2 := hle
  rw [← hg, h2]
  refine ⟨hle, fun hlt2 => ?_⟩
  rcases Int.lt_or_eq_of_le hle with h | h
  · exact h
  · have hmx := hd_max (g := fun p => (cs (nsOf ns) m e).getD p.1 0 + p.2 ^ 2) linesF_desc.1 hin h.symm
    have hmx : b ≤ fB (nsOf ns) m (e + 1) := hmx
    omega
theorem fB_char {ns : List Int} {m : Int} (hF : Fit m ns) {e s : Nat} (he : e < ns.length) (h1 : s ≤ e) (h2 : lenL ns s (e + 1) ≤ m)
    (h : ∀ b ≤ e, lenL ns b (e + 1) ≤ m → (cs (nsOf ns) m e).getD s 0 + (m - lenL ns s (e + 1)) ^ 2 ≤ (cs (nsOf ns) m e).getD b 0 + (m - lenL ns b (e + 1)) ^ 2 ∧
      (s < b → (cs (nsOf ns) m e).getD s 0 + (m - lenL ns s (e + 1)) ^ 2 < (cs (nsOf ns) m e).getD b 0 + (m - lenL ns b (e + 1)) ^ 2)) : fB (nsOf ns) m (e + 1) = s := by
  obtain ⟨a1, a2, a3⟩ := fB_spec hF he
  obtain ⟨b1, b2⟩ := a3 s h1 h2
  obtain ⟨c1, c2⟩ := h _ a1 a2
  rcases Nat.lt_trichotomy (fB (nsOf ns) m (e + 1)) s with z | z | z
  · have := b2 z
    omega
  · exact z
  · have := c2 z
    omega
theorem lB_spec {ns : List Int} {m : Int} (hF : Fit m ns) (h0 : 0 < ns.length) : lB ns m < ns.length ∧ lenL ns (lB ns m) ns.length ≤ m ∧ ∀ b < ns.length, lenL ns b ns.length ≤ m → csN ns m (lB ns m) ≤ csN ns m b ∧ (lB ns m < b → csN ns m (lB ns m) < csN ns m b) := by
  obtain ⟨a, b⟩ := lB_line hF h0
  refine ⟨a, b, fun c hc hl => ?_⟩
  obtain ⟨x, y⟩ := lB_least hF hc hl
  refine ⟨x, fun z => ?_⟩
  rcases Int.lt_or_eq_of_le x with h | h
  · exact h
  · have := y h
    omega
theorem lB_char {ns : List Int} {m : Int} (hF : Fit m ns) {s : Nat} (h1 : s < ns.length) (h2 : lenL ns s ns.length ≤ m)
    (h : ∀ b < ns.length, lenL ns b ns.length ≤ m → csN ns m s ≤ csN ns m b ∧ (s < b → csN ns m s < csN ns m b)) : lB ns m = s := by
  obtain ⟨a1, a2, a3⟩ := lB_spec hF (by omega)
  obtain ⟨b1, b2⟩ := a3 s h1 h2
  obtain ⟨c1, c2⟩ := h _ a1 a2
  rcases Nat.lt_trichotomy (lB ns m) s with z | z | z
  · have := b2 z
    omega
  · exact z
  · have := c2 z
    omega
theorem cs_ext2 {ns fs : List Int} {m : Int} {b k : Nat} (hb : b ≤ ns.length) (hk : ns.length ≤ k) : (cs (nsOf (ns ++ fs)) m k).getD b 0 = csN ns m b := by
  unfold csN
  rw [cs_pre hb hk, cs_congr fun c hc => nsOf_app hc]
theorem tail_pos {ns fs : List Int} {m : Int} (hF : Fit m (ns ++ fs)) {e : Nat} (he : ns.length < e) (hl : e ≤ (ns ++ fs).length) : 1 ≤ lenL (ns ++ fs) ns.length e := by
  by_cases h : e = ns.length + 1
  · rw [h, lenL_one (by omega)]
    exact (hF _ (by omega)).1
  · rw [lenL_add (c := ns.length + 1) (by omega) (by omega) hl, lenL_one (by omega)]
    have a := (hF ns.length (by omega)).1
    have b := lenL_nn (fit_pos hF) (lo := ns.length + 1) (hi := e) (by omega)
    omega
theorem tail_le {ns fs : List Int} {m : Int} (hF : Fit m (ns ++ fs)) {b e : Nat} (he : ns.length < e) (hl : e ≤ (ns ++ fs).length) (hb : b ≤ ns.length) (h : lenL (ns ++ fs) b e ≤ m) : lenL (ns ++ fs) ns.length e ≤ m := by
  have a := lenL_mono (fit_pos hF) hl (ns.length - b) b (by omega)
  rw [show b + (ns.length - b) = ns.length by omega] at a
  omega
/-- a closed line over the end of the text begins where it does ahead of one word as long -/
theorem cross_closed {ns fs : List Int} {m : Int} (hF : Fit m (ns ++ fs)) {e : Nat} (he : ns.length < e) (hl : e ≤ (ns ++ fs).length) (hs : fB (nsOf (ns ++ fs)) m e ≤ ns.length) :
    1 ≤ lenL (ns ++ fs) ns.length e ∧ lenL (ns ++ fs) ns.length e ≤ m ∧ startC ns m (lenL (ns ++ fs) ns.length e) = fB (nsOf (ns ++ fs)) m e := by
  obtain ⟨d, rfl⟩ : ∃ d, e = d + 1 := ⟨e - 1, by omega⟩
  obtain ⟨a1, a2, a3⟩ := fB_spec hF (show d < (ns ++ fs).length by omega)
  generalize fB (nsOf (ns ++ fs)) m (d + 1) = s at hs a1 a2 a3
  have p1 := tail_pos hF he hl
  have p2 := tail_le hF he hl hs a2
  refine ⟨p1, p2, ?_⟩
  have mg : ∀ b ≤ ns.length, lenL (ns ++ [lenL (ns ++ fs) ns.length (d + 1)]) b (ns.length + 1) = lenL (ns ++ fs) b (d + 1) := fun b hb => merge he hl hb
  generalize hu : lenL (ns ++ fs) ns.length (d + 1) = u at p1 p2 mg
  refine fB_char (fit_push (fit_left hF) p1 p2) (by simp) hs (by rw [mg s hs]; exact a2) fun b hb hlb => ?_
  rw [mg b hb] at hlb
  rw [mg b hb, mg s hs, cs_ext2 hs (Nat.le_refl _), cs_ext2 hb (Nat.le_refl _)]
  have z := a3 b (by omega) hlb
  rwa [cs_ext2 hs (by omega), cs_ext2 hb (by omega)] at z
theorem cross_open {ns fs : List Int} {m : Int} (hF : Fit m (ns ++ fs)) (hfs : fs ≠ []) (hs : lB (ns ++ fs) m ≤ ns.length) :
    1 ≤ lenL (ns ++ fs) ns.length (ns ++ fs).length ∧ lenL (ns ++ fs) ns.length (ns ++ fs).length ≤ m ∧ startO ns m (lenL (ns ++ fs) ns.length (ns ++ fs).length) = lB (ns ++ fs) m := by
  have h0 : ns.length < (ns ++ fs).length := by
    rw [List.length_append]
    have : 0 < fs.length := List.length_pos_iff.mpr hfs
    omega
  obtain ⟨a1, a2, a3⟩ := lB_spec hF (by omega)
  generalize lB (ns ++ fs) m = s at hs a1 a2 a3
  have p1 := tail_pos hF h0 (Nat.le_refl _)
  have p2 := tail_le hF h0 (Nat.le_refl _) hs a2
  refine ⟨p1, p2, ?_⟩
  have mg : ∀ b ≤ ns.length, lenL (ns ++ [lenL (ns ++ fs) ns.length (ns ++ fs).length]) b (ns.length + 1) = lenL (ns ++ fs) b (ns ++ fs).length := fun b hb => merge h0 (Nat.le_refl _) hb
  generalize hu : lenL (ns ++ fs) ns.length (ns ++ fs).length = u at p1 p2 mg
  have el : (ns ++ [u]).length = ns.length + 1 := by simp
  refine lB_char (fit_push (fit_left hF) p1 p2) (by rw [el]; omega) (by rw [el, mg s hs]; exact a2) fun b hb hlb => ?_
  have hb : b ≤ ns.length := by rw [el] at hb; omega
  rw [el, mg b hb] at hlb
  have z := a3 b (by omega) hlb
  unfold csN at z ⊢
  rw [el]
  rw [cs_ext2 hs (by omega), cs_ext2 hb (by omega)] at z ⊢
  exact z
/-- the ends within the text -/
theorem Pth.cut {ns fs : List Int} {m : Int} (hF : Fit m (ns ++ fs)) {e : Nat} {es : List Nat} (h : Pth (fB (nsOf (ns ++ fs)) m) e es) : e ≤ (ns ++ fs).length →
    ∃ s p, s ≤ ns.length ∧ Pth (fB (nsOf ns) m) s p ∧ es.filter (fun x => decide (x ≤ ns.length)) = p ∧ ((e ≤ ns.length ∧ s = e ∧ es = p) ∨ ∃ e2, ns.length < e2 ∧ e2 ≤ e ∧ s = fB (nsOf (ns ++ fs)) m e2) := by
  induction h with
  | z => exact fun _ => ⟨0, [], Nat.zero_le _, .z, rfl, .inl ⟨Nat.zero_le _, rfl, rfl⟩⟩
  | @s e es h0 h ih =>
    intro he
    have hlt := fB_lt' hF h0 he
    obtain ⟨s, p, h1, h2, h3, h4⟩ := ih (by omega)
    by_cases hn : e ≤ ns.length
    · rcases h4 with ⟨_, hs, hes⟩ | ⟨e2, k1, k2, _⟩
      · have hP : Pth (fB (nsOf ns) m) e (es ++ [e]) := by
          have : fB (nsOf ns) m e = fB (nsOf (ns ++ fs)) m e := (fB_congr fun b hb => nsOf_app (by omega)).symm
          refine .s h0 ?_
          rw [this, ← hs, hes]
          exact h2
        refine ⟨e, es ++ [e], hn, hP, ?_, .inl ⟨hn, rfl, rfl⟩⟩
        rw [List.filter_append, h3, ← hes, List.filter_cons_of_pos (by simpa using hn)]
        rfl
      · omega
    · refine ⟨s, p, h1, h2, ?_, .inr ?_⟩
      · rw [List.filter_append, h3, List.filter_cons_of_neg (by simpa using hn)]
        simp
      · rcases h4 with ⟨hle, hs, _⟩ | ⟨e2, k1, k2, k3⟩
        · exact ⟨e, by omega, Nat.le_refl _, hs⟩
        · exact ⟨e2, k1, by omega, k3⟩
/-- the start of a future and the ends up to there -/
theorem fut_start {ns fs : List Int} {m : Int} (hF : Fit m (ns ++ fs)) (hfs : fs ≠ []) {es0 : List Nat} (h : Pth (fB (nsOf (ns ++ fs)) m) (lB (ns ++ fs) m) es0) :
    ∃ s p u, s ≤ ns.length ∧ Pth (fB (nsOf ns) m) s p ∧ (es0 ++ [(ns ++ fs).length]).filter (fun x => decide (x ≤ ns.length)) = p ∧ 1 ≤ u ∧ u ≤ m ∧ (s = startC ns m u ∨ s = startO ns m u) := by
  have h0 : ns.length < (ns ++ fs).length := by
    rw [List.length_append]
    have : 0 < fs.length := List.length_pos_iff.mpr hfs
    omega
  obtain ⟨a1, a2, _⟩ := lB_spec hF (by omega)
  obtain ⟨s, p, h1, h2, h3, h4⟩ := h.cut hF (by omega)
  have e1 : (es0 ++ [(ns ++ fs).length]).filter (fun x => decide (x ≤ ns.length)) = p := by
    rw [List.filter_append, h3, List.filter_cons_of_neg (by simp at h0 ⊢; omega)]
    simp
  rcases h4 with ⟨k1, k2, _⟩ | ⟨e2, k1, k2, k3⟩
  · obtain ⟨b1, b2, b3⟩ := cross_open hF hfs k1
    exact ⟨s, p, _, h1, h2, e1, b1, b2, .inr (by rw [k2, b3])⟩
  · obtain ⟨b1, b2, b3⟩ := cross_closed hF k1 (by omega) (by rw [← k3]; exact h1)
    exact ⟨s, p, _, h1, h2, e1, b1, b2, .inl (by rw [k3, b3])⟩
end SL

set_option Elab.async false
set_option linter.all false
set_option maxRecDepth 100000
set_option maxHeartbeats 1000000
/-! Own layer 47: best layouts as functions; the starts; what all futures have in common. -/
namespace SL
open PySem PySem.Spec PyProof.Rows L2
def pathK (N : Nat → Int) (m : Int) : Nat → Nat → List Nat
  | _, 0 => []
  | 0, _ + 1 => []
  | k + 1, e + 1 => pathK N m k (fB N m (e + 1)) ++ [e + 1]
/-- the closed layout of the first e words -/
def pathOf (ns : List Int) (m : Int) (e : Nat) : List Nat := pathK (nsOf ns) m e e
/-- the best layout -/
def blay (ns : List Int) (m : Int) : List Nat := if ns = [] then [] else pathOf ns m (lB ns m) ++ [ns.length]
theorem pathK_pth {ns : List Int} {m : Int} (hF : Fit m ns) : ∀ (k e : Nat), e ≤ k → e ≤ ns.length → Pth (fB (nsOf ns) m) e (pathK (nsOf ns) m k e)
  | _, 0, _, _ => by
    unfold pathK
    exact .z
  | k + 1, e + 1, h, he => by
    unfold pathK
    have := fB_lt' hF (show 1 ≤ e + 1 by omega) he
    exact .s (by omega) (pathK_pth hF k _ (by omega) (by omega))
theorem pathOf_pth {ns : List Int} {m : Int} (hF : Fit m ns) {e : Nat} (he : e ≤ ns.length) : Pth (fB (nsOf ns) m) e (pathOf ns m e) := pathK_pth hF e e (Nat.le_refl _) he
theorem pathOf_uni {ns : List Int} {m : Int} (hF : Fit m ns) {e : Nat} (he : e ≤ ns.length) {es : List Nat} (h : Pth (fB (nsOf ns) m) e es) : es = pathOf ns m e := h.uni (pathOf_pth hF he)
theorem pathOf_zero {ns : List Int} {m : Int} : pathOf ns m 0 = [] := rfl
theorem pathOf_succ {ns : List Int} {m : Int} (hF : Fit m ns) {e : Nat} (h0 : 0 < e) (he : e ≤ ns.length) : pathOf ns m e = pathOf ns m (fB (nsOf ns) m e) ++ [e] := by
  have := fB_lt' hF h0 he
  exact (pathOf_uni hF he (.s h0 (pathOf_pth hF (by omega)))).symm
theorem blay_of {ns : List Int} {m : Int} (hF : Fit m ns) {es : List Nat} (h1 : ns = [] → es = []) (h2 : 0 < ns.length → ∃ es0, es = es0 ++ [ns.length] ∧ Pth (fB (nsOf ns) m) (lB ns m) es0) : es = blay ns m := by
  unfold blay
  by_cases h : ns = []
  · rw [if_pos h, h1 h]
  · rw [if_neg h]
    have h0 := List.length_pos_iff.mpr h
    obtain ⟨es0, e, hp⟩ := h2 h0
    have := lB_line hF h0
    rw [e, pathOf_uni hF (by omega) hp]
theorem blay_app {ns fs : List Int} {m : Int} (hF : Fit m (ns ++ fs)) (hfs : fs ≠ []) : ∃ es0, blay (ns ++ fs) m = es0 ++ [(ns ++ fs).length] ∧ Pth (fB (nsOf (ns ++ fs)) m) (lB (ns ++ fs) m) es0 := by
  have hne : ns ++ fs ≠ [] := fun z => hfs (List.append_eq_nil_iff.mp z).2
  have := lB_line hF (List.length_pos_iff.mpr hne)
  exact ⟨_, by unfold blay; rw [if_neg hne], pathOf_pth hF (by omega)⟩
theorem blay_char {ns : List Int} {m : Int} (hF : Fit m ns) : BestC ns m (costO ns m) (blay ns m) ∧ costO ns m (blay ns m) = csN ns m (lB ns m) := by
  refine best_told hF (fun h => by unfold blay; rw [if_pos h]) (fun h => ?_)
  have := lB_line hF h
  exact ⟨_, by unfold blay; rw [if_neg (fun z => by rw [z] at h; simp at h)], pathOf_pth hF (by omega)⟩
/-! ### the starts -/
def StartAt (ns : List Int) (m : Int) (b : Nat) : Prop := ∃ u, 1 ≤ u ∧ u ≤ m ∧ (b = startC ns m u ∨ b = startO ns m u)
theorem startO_le {ns : List Int} {m u : Int} (hF : Fit m ns) (h1 : 1 ≤ u) (h2 : u ≤ m) : startO ns m u ≤ ns.length := by
  have := (lB_line (fit_push hF h1 h2) (by simp)).1
  unfold startO
  rw [List.length_append] at this
  have : lB (ns ++ [u]) m < ns.length + 1 := this
  omega
theorem startC_le {ns : List Int} {m u : Int} (hF : Fit m ns) (h1 : 1 ≤ u) (h2 : u ≤ m) : startC ns m u ≤ ns.length :=
  (fB_spec (fit_push hF h1 h2) (e := ns.length) (by simp)).1
theorem StartAt.le {ns : List Int} {m : Int} (hF : Fit m ns) {b : Nat} (h : StartAt ns m b) : b ≤ ns.length := by
  obtain ⟨u, h1, h2, h | h⟩ := h
  · rw [h]; exact startC_le hF h1 h2
  · rw [h]; exact startO_le hF h1 h2
theorem fut_any {ns fs : List Int} {m : Int} (hF : Fit m (ns ++ fs)) (hfs : fs ≠ []) : ∃ s, StartAt ns m s ∧ (blay (ns ++ fs) m).filter (fun x => decide (x ≤ ns.length)) = pathOf ns m s := by
  obtain ⟨es0, e, hp⟩ := blay_app hF hfs
  obtain ⟨s, p, u, h1, h2, h3, h4, h5, h6⟩ := fut_start hF hfs hp
  exact ⟨s, ⟨u, h4, h5, h6⟩, by rw [e, h3, pathOf_uni (fit_left hF) h1 h2]⟩
theorem fut_open {ns : List Int} {m u : Int} (hF : Fit m ns) (h1 : 1 ≤ u) (h2 : u ≤ m) : blay (ns ++ [u]) m = pathOf ns m (startO ns m u) ++ [ns.length + 1] := by
  have hF2 := fit_push hF h1 h2
  obtain ⟨es0, e, hp⟩ := blay_app hF2 (List.cons_ne_nil _ _)
  have hle := startO_le hF h1 h2
  obtain ⟨s, p, k1, k2, k3, k4⟩ := hp.cut hF2 (by have : lB (ns ++ [u]) m ≤ ns.length := hle; rw [List.length_append]; omega)
  rcases k4 with ⟨_, rfl, rfl⟩ | ⟨e2, j1, j2, _⟩
  · rw [e, pathOf_uni hF k1 k2, List.length_append]
    rfl
  · have : lB (ns ++ [u]) m ≤ ns.length := hle
    omega
theorem lB_wide {L : List Int} {m : Int} (hF : Fit m (L ++ [m])) : lB (L ++ [m]) m = L.length := by
  have el : (L ++ [m]).length = L.length + 1 := by simp
  have hm := (fit_all hF m (by simp)).1
  refine lB_char hF (by rw [el]; omega) (by rw [el, lenL_last]; exact Int.le_refl _) fun b hb hl => ?_
  rw [el] at hb hl
  have : b = L.length := by
    by_cases h : b = L.length
    · exact h
    · rw [lenL_add (c := L.length) (by omega) (by omega) (by rw [el]; omega), lenL_last] at hl
      have := lenL_nn (fit_pos hF) (lo := b) (hi := L.length) (by omega)
      omega
  rw [this]
  exact ⟨Int.le_refl _, fun h => by omega⟩
theorem fut_closed {ns : List Int} {m u : Int} (hF : Fit m ns) (h1 : 1 ≤ u) (h2 : u ≤ m) : blay (ns ++ [u, m]) m = pathOf ns m (startC ns m u) ++ [ns.length + 1, ns.length + 2] := by
  have hF2 := fit_push hF h1 h2
  have hF3 := fit_push hF2 (show 1 ≤ m by omega) (Int.le_refl m)
  have e3 : ns ++ [u, m] = (ns ++ [u]) ++ [m] := by simp
  have hlB := lB_wide hF3
  rw [e3]
  unfold blay
  rw [if_neg (by simp), hlB]
  have el : (ns ++ [u]).length = ns.length + 1 := by simp
  have el3 : ((ns ++ [u]) ++ [m]).length = ns.length + 2 := by simp
  rw [el, el3, pathOf_succ hF3 (by omega) (by omega)]
  have ef : fB (nsOf ((ns ++ [u]) ++ [m])) m (ns.length + 1) = startC ns m u := fB_congr fun b hb => nsOf_app (by rw [el]; omega)
  have hle := startC_le hF h1 h2
  rw [ef]
  have hp : Pth (fB (nsOf ((ns ++ [u]) ++ [m])) m) (startC ns m u) (pathOf ((ns ++ [u]) ++ [m]) m (startC ns m u)) := pathOf_pth hF3 (by omega)
  rw [show (ns ++ [u]) ++ [m] = ns ++ [u, m] by simp] at hp ⊢
  have hF4 : Fit m (ns ++ [u, m]) := by rw [e3]; exact hF3
  obtain ⟨s, p, k1, k2, k3, k4⟩ := hp.cut hF4 (by simp; omega)
  rcases k4 with ⟨_, j2, j3⟩ | ⟨e2, j1, j2, _⟩
  · rw [j3, j2.symm, pathOf_uni hF k1 k2]
    simp
  · omega
/-- the end of the text is a start: that of the longest words -/
theorem start_wide {ns : List Int} {m : Int} (hF : Fit m ns) (hm : 1 ≤ m) : startO ns m m = ns.length ∧ startC ns m m = ns.length := by
  have hF2 := fit_push hF hm (Int.le_refl m)
  refine ⟨lB_wide hF2, ?_⟩
  obtain ⟨a1, a2, _⟩ := fB_spec hF2 (e := ns.length) (by simp)
  show fB (nsOf (ns ++ [m])) m (ns.length + 1) = _
  generalize fB (nsOf (ns ++ [m])) m (ns.length + 1) = s at a1 a2
  by_cases h : s = ns.length
  · exact h
  · rw [lenL_add (c := ns.length) (by omega) (by omega) (by simp), lenL_last] at a2
    have := lenL_nn (fit_pos hF2) (lo := s) (hi := ns.length) (by omega)
    omega
theorem start_end {ns : List Int} {m : Int} (hF : Fit m ns) (hm : 1 ≤ m) : StartAt ns m ns.length := ⟨m, hm, Int.le_refl _, .inr (start_wide hF hm).1.symm⟩
end SL

set_option Elab.async false
set_option linter.all false
set_option maxRecDepth 100000
set_option maxHeartbeats 1000000
/-! Own layer 48: what all layouts with futures have in common. -/
namespace SL
open PySem PySem.Spec PyProof.Rows L2
theorem sq_nn (a : Int) : 0 ≤ a ^ 2 := by
  have : a ^ 2 = a * a := by rw [Int.pow_succ, Int.pow_succ, Int.pow_zero, Int.one_mul]
  rw [this]
  rcases Int.le_total 0 a with h | h
  · exact Int.mul_nonneg h h
  · exact Int.mul_nonneg_of_nonpos_of_nonpos h h
theorem sq_mono {a b : Int} (h0 : 0 ≤ a) (h : a ≤ b) : a ^ 2 ≤ b ^ 2 := by
  have e : ∀ a : Int, a ^ 2 = a * a := fun a => by rw [Int.pow_succ, Int.pow_succ, Int.pow_zero, Int.one_mul]
  rw [e, e]
  exact Int.mul_le_mul h h h0 (by omega)
theorem sq_le_one {a : Int} (h0 : 0 ≤ a) (h : a ≤ 1) : a ^ 2 ≤ 1 := sq_mono h0 h
theorem fB_cost {ns : List Int} {m : Int} (hF : Fit m ns) (h0 : 0 < ns.length) : csN ns m ns.length = csN ns m (fB (nsOf ns) m ns.length) + (m - lenL ns (fB (nsOf ns) m ns.length) ns.length) ^ 2 := by
  obtain ⟨d, hd⟩ : ∃ d, ns.length = d + 1 := ⟨ns.length - 1, by omega⟩
  obtain ⟨p, hp, h1, h2⟩ := fB_line hF (show d < ns.length by omega)
  have hg := line_gap (m := m) (show d + 1 ≤ ns.length by omega) p hp
  have hlt := fB_lt hF (show d < ns.length by omega)
  have e0 : csN ns m (d + 1) = least (rate (cs (nsOf ns) m d) (linesF (nsOf ns) (d + 1) (m + 1))) := by
    unfold csN
    exact cs_at (by omega)
  have e1 : csN ns m p.1 = (cs (nsOf ns) m d).getD p.1 0 := by
    unfold csN
    exact cs_pre (m := d) (by omega) (by omega)
  rw [hd, e0, ← h2, ← h1, e1, hg]
/-- x is an end of the closed layout of the first s words, or its beginning -/
def Anc (ns : List Int) (m : Int) (s x : Nat) : Prop := x = 0 ∨ x ∈ pathOf ns m s
theorem Anc.zero {ns : List Int} {m : Int} {s : Nat} : Anc ns m s 0 := .inl rfl
theorem Anc.self {ns : List Int} {m : Int} (hF : Fit m ns) {s : Nat} (h : s ≤ ns.length) : Anc ns m s s := by
  by_cases h0 : s = 0
  · exact .inl h0
  · refine .inr ?_
    rw [pathOf_succ hF (by omega) h]
    simp
theorem pathOf_le {ns : List Int} {m : Int} (hF : Fit m ns) {s x : Nat} (h : s ≤ ns.length) (hx : x ∈ pathOf ns m s) : 0 < x ∧ x ≤ s := by
  have hp := pathOf_pth hF h
  refine ⟨?_, hp.mem_le (fun k a b => fB_lt' hF a (by omega)) x hx⟩
  have := hp.filter0
  rw [← this] at hx
  simpa using (List.mem_filter.mp hx).2
theorem Anc.le {ns : List Int} {m : Int} (hF : Fit m ns) {s x : Nat} (h : s ≤ ns.length) (a : Anc ns m s x) : x ≤ s := by
  rcases a with a | a
  · omega
  · exact (pathOf_le hF h a).2
theorem Anc.step {ns : List Int} {m : Int} (hF : Fit m ns) {s x : Nat} (h0 : 0 < s) (h : s ≤ ns.length) : Anc ns m s x ↔ x = s ∨ Anc ns m (fB (nsOf ns) m s) x := by
  unfold Anc
  rw [pathOf_succ hF h0 h, List.mem_append, List.mem_singleton]
  constructor
  · rintro (a | a | a)
    · exact .inr (.inl a)
    · exact .inr (.inr a)
    · exact .inl a
  · rintro (a | a | a)
    · exact .inr (.inr a)
    · exact .inl a
    · exact .inr (.inl a)
/-- what leads to an end on the way -/
theorem anc_prefix {ns : List Int} {m : Int} (hF : Fit m ns) {s x : Nat} (h : s ≤ ns.length) (a : Anc ns m s x) : ∃ t, pathOf ns m s = pathOf ns m x ++ t ∧ ∀ y ∈ t, x < y := by
  induction s using Nat.strongRecOn with
  | ind s ih =>
    by_cases h0 : s = 0
    · have := a.le hF h
      obtain rfl : x = s := by omega
      exact ⟨[], by simp, fun _ z => nomatch z⟩
    · rcases (Anc.step hF (by omega) h).mp a with rfl | a
      · exact ⟨[], by simp, fun _ z => nomatch z⟩
      · have hlt := fB_lt' hF (show 1 ≤ s by omega) h
        obtain ⟨t, e1, e2⟩ := ih _ hlt (by omega) a
        refine ⟨t ++ [s], by rw [pathOf_succ hF (by omega) h, e1, List.append_assoc], fun y hy => ?_⟩
        rcases List.mem_append.mp hy with hy | hy
        · exact e2 y hy
        · obtain rfl := List.mem_singleton.mp hy
          have := a.le hF (by omega)
          omega
theorem Anc.trans {ns : List Int} {m : Int} (hF : Fit m ns) {s x y : Nat} (h : s ≤ ns.length) (a : Anc ns m s x) (b : Anc ns m x y) : Anc ns m s y := by
  rcases b with b | b
  · exact .inl b
  · obtain ⟨t, e, _⟩ := anc_prefix hF h a
    exact .inr (by rw [e]; exact List.mem_append_left _ b)
/-- two ends on one way: the lesser is on the way of the greater -/
theorem Anc.chain {ns : List Int} {m : Int} (hF : Fit m ns) {s x y : Nat} (h : s ≤ ns.length) (a : Anc ns m s x) (b : Anc ns m s y) (hxy : x ≤ y) : Anc ns m y x := by
  obtain ⟨t, e, ht⟩ := anc_prefix hF h b
  rcases a with a | a
  · exact .inl a
  · rw [e] at a
    rcases List.mem_append.mp a with a | a
    · exact .inr a
    · have := ht x a
      omega
/-! ### the common end -/
def Common (ns : List Int) (m : Int) (S : Nat → Prop) (x : Nat) : Prop := ∀ s, S s → Anc ns m s x
/-- the greatest common end -/
structure SetE (ns : List Int) (m : Int) (S : Nat → Prop) (e : Nat) : Prop where
  com : Common ns m S e
  top : ∀ x, Common ns m S x → x ≤ e
theorem SetE.uni {ns : List Int} {m : Int} {S : Nat → Prop} {e f : Nat} (h : SetE ns m S e) (g : SetE ns m S f) : e = f := Nat.le_antisymm (g.top _ h.com) (h.top _ g.com)
theorem SetE.congr {ns : List Int} {m : Int} {S T : Nat → Prop} {e : Nat} (h : SetE ns m S e) (k : ∀ x, Common ns m S x ↔ Common ns m T x) : SetE ns m T e := ⟨(k e).mp h.com, fun x hx => h.top x ((k x).mpr hx)⟩
theorem SetE.single {ns : List Int} {m : Int} (hF : Fit m ns) {w : Nat} (hw : w ≤ ns.length) : SetE ns m (fun x => x = w) w := ⟨fun s hs => by rw [hs]; exact .self hF hw, fun x hx => (hx w rfl).le hF hw⟩
/-- the greatest of several is replaced by what its line begins at -/
theorem common_step {ns : List Int} {m : Int} (hF : Fit m ns) {S : Nat → Prop} {e w : Nat} (h0 : 0 < e) (he : e ≤ ns.length) (hS : S e) (hw : S w) (hwe : w ≠ e) (hle : ∀ s, S s → s ≤ e) :
    ∀ x, Common ns m S x ↔ Common ns m (fun y => (S y ∧ y ≠ e) ∨ y = fB (nsOf ns) m e) x := by
  have hlt := fB_lt' hF h0 he
  intro x
  constructor
  · intro h s hs
    rcases hs with ⟨hs, _⟩ | rfl
    · exact h s hs
    · rcases (Anc.step hF h0 he).mp (h e hS) with rfl | a
      · have := (h w hw).le hF (by have := hle w hw; omega)
        have := hle w hw
        omega
      · exact a
  · intro h s hs
    by_cases e1 : s = e
    · rw [e1]
      exact (Anc.step hF h0 he).mpr (.inr (h _ (.inr rfl)))
    · exact h s (.inl ⟨hs, e1⟩)
/-- the best layout of the text alone: its last line begins at a start, or it is the closed layout -/
theorem best_alone {ns : List Int} {m : Int} (hF : Fit m ns) (h0 : 0 < ns.length) : StartAt ns m (lB ns m) ∨ blay ns m = pathOf ns m ns.length := by
  obtain ⟨a1, a2, a3⟩ := lB_spec hF h0
  have hbl : blay ns m = pathOf ns m (lB ns m) ++ [ns.length] := by
    unfold blay
    rw [if_neg (fun z => by rw [z] at h0; simp at h0)]
  have hpos := fit_pos hF
  obtain ⟨d, hd⟩ : ∃ d, ns.length = d + 1 := ⟨ns.length - 1, by omega⟩
  have hln : 0 ≤ lenL ns (lB ns m) ns.length := lenL_nn hpos a1
  have hl1 : 1 ≤ lenL ns (lB ns m) ns.length := by
    have h1 := lenL_mono hpos (Nat.le_refl ns.length) (d - lB ns m) (lB ns m) (by omega)
    rw [show lB ns m + (d - lB ns m) = d by omega] at h1
    have h2 : lenL ns d ns.length = nsOf ns d := by rw [hd]; exact lenL_one (by omega)
    have := (hF d (by omega)).1
    omega
  -- the cost of all words is no less
  have hcn : csN ns m (lB ns m) ≤ csN ns m ns.length := by
    obtain ⟨f1, f2, _⟩ := fB_spec hF (show d < ns.length by omega)
    have e1 := fB_cost hF h0
    have h1 := (a3 (fB (nsOf ns) m ns.length) (by rw [hd]; omega) (by rw [hd]; exact f2)).1
    have h2 : 0 ≤ (m - lenL ns (fB (nsOf ns) m ns.length) ns.length) ^ 2 := sq_nn _
    omega
  by_cases hr : lenL ns (lB ns m) ns.length + 2 ≤ m
  · refine .inl ⟨m - lenL ns (lB ns m) ns.length - 1, by omega, by omega, .inl ?_⟩
    have hu1 : 1 ≤ m - lenL ns (lB ns m) ns.length - 1 := by omega
    have hum : m - lenL ns (lB ns m) ns.length - 1 < m := by omega
    have hug : lenL ns (lB ns m) ns.length + 1 + (m - lenL ns (lB ns m) ns.length - 1) = m := by omega
    generalize m - lenL ns (lB ns m) ns.length - 1 = u at hu1 hum hug
    have hF2 := fit_push hF hu1 (Int.le_of_lt hum)
    have el : (ns ++ [u]).length = ns.length + 1 := by simp
    have lenb : ∀ b < ns.length, lenL (ns ++ [u]) b (ns.length + 1) = lenL ns b ns.length + 1 + u := fun b hb => by
      rw [lenL_add (c := ns.length) hb (by omega) (by omega), lenL_last, lenL_appl (Nat.le_refl _)]
    refine (fB_char hF2 (e := ns.length) (by omega) (Nat.le_of_lt a1) (by rw [lenb _ a1]; omega) fun b hb hl => ?_).symm
    rw [lenb _ a1, show m - (lenL ns (lB ns m) ns.length + 1 + u) = 0 by omega, cs_ext2 (Nat.le_of_lt a1) (Nat.le_refl _), cs_ext2 hb (Nat.le_refl _)]
    by_cases hbn : b = ns.length
    · rw [hbn, lenL_last]
      have : 0 < (m - u) ^ 2 := sq_pos (by omega)
      constructor
      · omega
      · intro _
        omega
    · rw [lenb b (by omega)] at hl ⊢
      obtain ⟨x, y⟩ := a3 b (by omega) (by omega)
      have : 0 ≤ (m - (lenL ns b ns.length + 1 + u)) ^ 2 := sq_nn _
      constructor
      · omega
      · intro h
        have := y h
        omega
  · refine .inr ?_
    rw [hbl, pathOf_succ hF h0 (Nat.le_refl _)]
    have : fB (nsOf ns) m ns.length = lB ns m := by
      rw [hd]
      refine fB_char hF (by omega) (by omega) (by rw [← hd]; exact a2) fun b hb hl => ?_
      rw [← hd] at hl ⊢
      have c1 : ∀ c ≤ d, (cs (nsOf ns) m d).getD c 0 = csN ns m c := fun c hc => by
        unfold csN
        exact (cs_pre hc (by omega)).symm
      rw [c1 b hb, c1 _ (by omega)]
      rcases Nat.lt_trichotomy b (lB ns m) with h | h | h
      · rw [lenL_add (c := lB ns m) h a1 (Nat.le_refl _)] at hl
        have h1 := lenL_nn hpos h
        have h2 : 1 ≤ lenL ns b (lB ns m) := by
          have h1 := lenL_mono hpos (show lB ns m ≤ ns.length by omega) (lB ns m - 1 - b) b (by omega)
          rw [show b + (lB ns m - 1 - b) = lB ns m - 1 by omega] at h1
          have h3 : lenL ns (lB ns m - 1) (lB ns m - 1 + 1) = nsOf ns (lB ns m - 1) := lenL_one (by omega)
          rw [show lB ns m - 1 + 1 = lB ns m by omega] at h3
          have := (hF (lB ns m - 1) (by omega)).1
          omega
        omega
      · rw [h]
        exact ⟨Int.le_refl _, fun z => by omega⟩
      · have h5 := (a3 b (by omega) hl).2 h
        rw [lenL_add (c := b) h (by omega) (Nat.le_refl _)] at hr a2 ⊢
        have h2 : 1 ≤ lenL ns (lB ns m) b := by
          have h1 := lenL_mono hpos (show b ≤ ns.length by omega) (b - 1 - lB ns m) (lB ns m) (by omega)
          rw [show lB ns m + (b - 1 - lB ns m) = b - 1 by omega] at h1
          have h3 : lenL ns (b - 1) (b - 1 + 1) = nsOf ns (b - 1) := lenL_one (by omega)
          rw [show b - 1 + 1 = b by omega] at h3
          have := (hF (b - 1) (by omega)).1
          omega
        have g1 : (m - (lenL ns (lB ns m) b + 1 + lenL ns b ns.length)) ^ 2 ≤ 1 := sq_le_one (by omega) (by omega)
        have g2 : 2 ^ 2 ≤ (m - lenL ns b ns.length) ^ 2 := sq_mono (by decide) (by omega)
        constructor
        · omega
        · intro _
          omega
    rw [this]
end SL

set_option Elab.async false
set_option linter.all false
set_option maxRecDepth 100000
set_option maxHeartbeats 1000000
/-! Own layer 49: functions as values; the greatest with a default; promises of the starts. -/
namespace SL
open PySem PySem.Spec PyProof.Rows L2
/-! ### a def that is passed on -/
/-- the def at g, called by place, promises sp -/
structure FVal (P : Program) (w : World) (K : PySem.W.Frag) (mg : Str → Option Value) (base : Heap) (CX : CXT) (k : Nat) (g : Addr) (sp : Sp) : Prop where
  ex : ∃ (fd : FuncData) (ps : List Str), FnG P w K mg base CX k g fd ps sp ∧ PySem.W.keepIn K (.ref g) = true ∧ ∀ (s : Shared) (us : List Value), us.length = ps.length → BindsTo s fd ⟨us, []⟩ (ps.zip us)
theorem FVal.mono {P : Program} {w : World} {K : PySem.W.Frag} {mg : Str → Option Value} {base : Heap} {CX : CXT} {j k : Nat} {g : Addr} {sp : Sp} (h : FVal P w K mg base CX j g sp) (hk : j ≤ k) : FVal P w K mg base CX k g sp :=
  let ⟨fd, ps, a, b⟩ := h.ex; ⟨fd, ps, a.mono hk, b⟩
theorem Def.val {P : Program} {w : World} {K : PySem.W.Frag} {mg : Str → Option Value} {base : Heap} {CX : CXT} {k : Nat} {x : Str} {st : Stmt} {ps : List Str} {sp : Sp} (D : Def P w K mg base CX k x st ps sp)
    (hbind : ∀ (kV doc pm : Value) (an : Option Addr) (cdv ct : Value) (us : List Value), us.length = ps.length → bindArgs (PySem.W.fnOf x x (defArgs st) (defBody st) (defScope st) .none kV doc pm an cdv ct) ⟨us, []⟩ = pure (ps.zip us)) :
    ∃ g, mg x = some (.ref g) ∧ FVal P w K mg base CX k g sp := by
  obtain ⟨f, fd, F, hm, G⟩ := D.ex
  have kp := F.kp
  obtain ⟨oc, od, kV, doc, pm, an, cdv, ct, osl, rfl, lk, hcd⟩ := F.ex
  exact ⟨f, hm, ⟨_, ps, G, kp, fun s us hl => .of_eq (hbind kV doc pm an cdv ct us hl)⟩⟩
section
variable {X : Cx} {CX : CXT} {k i : Nat} {g : Addr} {sp : Sp} {E : XK} {x : Str} {p pos : Pos} {e : Expr} {es : List Expr} {t : TA}
/-- f(e, ..), f a name of the body -/
def tCallV (i : Nat) (g : Addr) (sp : Sp) (E : XK) (t : TA) : TE := fun σ H Q => σ[i]? = some (some (.ref g)) ∧ t σ H fun vs H1 => sp vs H1 Q E
theorem pe_callV (F : FVal X.prog X.w X.K X.mg X.base CX k g sp) (hg : X.A.guards = some []) (hr : Room k X.A) (hN : X.N[i]? = some x) (hv : Vis X.env.scope x) (hx : Passes CX X E) (ha : PA X (e :: es) t)
    (hdb : (x == ("__debug__" : Str)) = false := by decide) (hcd : (x == ("__classdict__" : Str)) = false := by decide)
    (he : starEach (e :: es) X.env = (false, eval e X.env) :: starEach es X.env := by rfl) (hpl : (backTo pos (starEach es X.env)).any (·.1) = false := by rfl) : PE X (.Call (.Name x p) (e :: es) [] pos) (tCallV i g sp E t) := by
  obtain ⟨fd, ps, G, hk, hb⟩ := F.ex
  refine ⟨fun pins s σ H Q I h => ?_⟩
  obtain ⟨hs, ht⟩ := h
  refine wpAny_Call_Name_kw (thn ((pe_var (pos := p) hN hv hdb hcd).run pins s σ H (fun v H1 => v = .ref g ∧ H1 = H) I ⟨.ref g, hs, rfl, rfl⟩) fun u s1 ⟨v, H1, I1, r1, q1⟩ => ?_)
  obtain ⟨rfl, rfl⟩ := q1
  cases r1
  refine PySem.W.callWith_K (h₀ := X.base) I.ok.mod.kin hk (thn (ha.run pos pins s1 σ _ _ I1 ht) fun us s2 ⟨vs, H2, I2, r, q⟩ => ⟨I2.kIn, ?_⟩) he hpl
  exact run_fnG (args := ⟨us, []⟩) G hg hr hx (hb s2 us (r.length.symm.trans (G.len _ _ _ _ q))) I2 r q
end
/-! ### max(xs, default=d) of a list of ints -/
def rMaxDf (K : PySem.W.Frag) : List V → List V → Hp → VK → Prop := fun vs zs H Q => ∃ (a : Addr) (ns : List Int) (d : Int), vs = [V.ref a] ∧ zs = [V.int d] ∧ SqL K H a (ns.map V.int) ∧ ∀ m, (ns = [] → m = d) → (ns ≠ [] → m ∈ ns ∧ ∀ y ∈ ns, y ≤ m) → Q (.int m) H
theorem alike_intsL (ns : List Int) : PySem.W.AlikeAll (ns.map PyData.int) := by
  refine ⟨fun x hx y hy => ?_, fun x hx => ?_⟩
  · obtain ⟨a, _, rfl⟩ := List.mem_map.mp hx
    obtain ⟨b, _, rfl⟩ := List.mem_map.mp hy
    rfl
  · obtain ⟨a, _, rfl⟩ := List.mem_map.mp hx
    intro z
    cases z
theorem foldl_max : ∀ (ns : List Int) (n : Int), ns.foldl max n ∈ n :: ns ∧ ∀ y ∈ n :: ns, y ≤ ns.foldl max n
  | [], n => ⟨List.mem_cons_self .., fun y hy => by obtain rfl := List.mem_singleton.mp hy; exact Int.le_refl _⟩
  | x :: ns, n => by
    obtain ⟨a, b⟩ := foldl_max ns (max n x)
    rw [List.foldl_cons]
    constructor
    · rcases List.mem_cons.mp a with h | h
      · rw [h]
        by_cases hc : n ≤ x
        · rw [Int.max_eq_right hc]
          simp
        · rw [Int.max_eq_left (by omega)]
          simp
      · exact List.mem_cons_of_mem _ (List.mem_cons_of_mem _ h)
    · intro y hy
      have hm := b (max n x) (List.mem_cons_self ..)
      rcases List.mem_cons.mp hy with rfl | hy
      · omega
      · rcases List.mem_cons.mp hy with rfl | hy
        · omega
        · exact b y (List.mem_cons_of_mem _ hy)
theorem depth_ints : ∀ ns : List Int, PyData.depthAll (ns.map PyData.int) = 0
  | [] => rfl
  | n :: ns => by simp only [List.map_cons, PyData.depthAll, depth_ints ns, PyData.depth]; rfl
section
variable {X : Cx}
theorem cr_maxDf (hc : X.calm = true) (hu : X.A.units + 64 < cLine) : CallRK X (.builtin "max") [Str.ofString "default"] (rMaxDf X.K) := by
  intro pins s σ H vs zs us ws Q I r rz h
  obtain ⟨a, ns, d, rfl, rfl, hs, q⟩ := h
  obtain ⟨its, rv, hl, hz⟩ := I.list hs
  rw [Vals.ref1 r]
  obtain ⟨u, rfl, ru⟩ := vals1 rz
  obtain ⟨as, ra⟩ := Dp.readsAll I (ns.map PyData.int) _ its (dp_ints ns) rv
  have ra' : ReadsAll s.heap its.toArray.toList (ns.map PyData.int) as := by simpa using ra
  refine PySem.W.max_list_default (I.ok.hd hc) hl.isList ra' (alike_intsL ns) (by rw [depth_ints]; omega) (fun e h' tk hk => ?_) (fun y ys i v h' tk bs e hi rd hk => ?_)
  · exact ⟨.int d, H, I.kept hk, ru, q d (fun _ => rfl) (fun n => absurd (List.map_eq_nil_iff.mp e) n)⟩
  · match ns, e with
    | n :: ns, e =>
      obtain ⟨rfl, rfl⟩ := List.cons.inj e
      rw [PySem.W.maxD_ints] at rd
      obtain ⟨m1, m2⟩ := foldl_max ns n
      refine ⟨.int (ns.foldl max n), H, I.kept hk, ?_, q _ (fun z => nomatch z) fun _ => ⟨m1, m2⟩⟩
      cases rd with
      | int i t => exact ⟨t, rfl⟩
end
end SL

set_option Elab.async false
set_option linter.all false
set_option maxRecDepth 100000
set_option maxHeartbeats 1000000
/-! Own layer 50: what the defs of the starts promise. -/
namespace SL
open PySem PySem.Spec PyProof.Rows L2
/-- a line that further words can continue: (begin, room, cost ahead) -/
def CrAt (ns : List Int) (m : Int) (H : Hp) (a : Addr) (p : Nat × Int) : Prop := H a = some (.tup [.int (p.1 : Int), .int p.2, .int (csN ns m p.1)])
/-- a range: (low, high, start) -/
def TrAt (H : Hp) (a : Addr) (p : Int × Int × Nat) : Prop := H a = some (.tup [.int p.1, .int p.2.1, .int (p.2.2 : Int)])
/-- what is kept: (high, crossing) -/
def KpAt (ns : List Int) (m : Int) (H : Hp) (a : Addr) (e : Int × (Nat × Int)) : Prop := ∃ b, H a = some (.tup [.int e.1, .ref b]) ∧ CrAt ns m H b e.2
theorem CrAt.same {ns : List Int} {m : Int} {H H' : Hp} (k : Same H H') : ∀ a p, CrAt ns m H a p → CrAt ns m H' a p := fun _ _ h => k _ _ h
theorem TrAt.same {H H' : Hp} (k : Same H H') : ∀ a p, TrAt H a p → TrAt H' a p := fun _ _ h => k _ _ h
theorem KpAt.same {ns : List Int} {m : Int} {H H' : Hp} (k : Same H H') : ∀ a p, KpAt ns m H a p → KpAt ns m H' a p := fun _ _ ⟨b, h1, h2⟩ => ⟨b, k _ _ h1, k _ _ h2⟩
theorem tup_stay {H : Hp} {l a : Addr} {ys xs : List V} {o : HO} (hl : H l = some (.lst ys)) (h : H a = some (.tup xs)) : upd H l o a = some (.tup xs) := by
  by_cases e : a = l
  · rw [e, hl] at h
    cases h
  · rw [upd_ne e]
    exact h
theorem CrAt.lst {ns : List Int} {m : Int} {H : Hp} {l : Addr} {ys : List V} {o : HO} (hl : H l = some (.lst ys)) : ∀ a p, CrAt ns m H a p → CrAt ns m (upd H l o) a p := fun _ _ h => tup_stay hl h
theorem TrAt.lst {H : Hp} {l : Addr} {ys : List V} {o : HO} (hl : H l = some (.lst ys)) : ∀ a p, TrAt H a p → TrAt (upd H l o) a p := fun _ _ h => tup_stay hl h
theorem KpAt.lst {ns : List Int} {m : Int} {H : Hp} {l : Addr} {ys : List V} {o : HO} (hl : H l = some (.lst ys)) : ∀ a p, KpAt ns m H a p → KpAt ns m (upd H l o) a p := fun _ _ ⟨b, h1, h2⟩ => ⟨b, tup_stay hl h1, tup_stay hl h2⟩
def spCross (C : Addr) : Sp := fun vs H Q _ => ∃ (H0 : Hp) (p : Addr) (m : Int) (ns : List Int), vs = [.ref p] ∧ TabAt C H0 H p m ns ∧ Fit m ns ∧ 1 ≤ m ∧ m ≤ 1000000000 ∧ ns.length ≤ 2000 ∧
  ∀ H' l rs, Same H H' → H l = none → H' l = some (.lst rs) → AllAt (CrAt ns m H') rs (crs ns m) → Q (.ref l) H'
def spLim (lim : List Int → Int → Nat × Int → Nat × Int → Int) : Sp := fun vs H Q _ => ∃ (ns : List Int) (m : Int) (c x : Nat × Int) (a b : Addr), vs = [.ref a, .ref b] ∧ CrAt ns m H a c ∧ CrAt ns m H b x ∧ c.2 < x.2 ∧ 0 < c.2 ∧ x.2 ≤ 1000000000 ∧ Q (.int (lim ns m c x)) H
def spRanges (P : Program) (w : World) (K : PySem.W.Frag) (mg : Str → Option Value) (base : Heap) (C : Addr) : Sp := fun vs H Q _ => ∃ (H0 : Hp) (p g : Addr) (m : Int) (ns : List Int) (val : Nat × Int → Int → Int) (lim : List Int → Int → Nat × Int → Nat × Int → Int) (f : Int → Nat),
  vs = [.ref p, .ref g] ∧ FVal P w K mg base CX0 1 g (spLim lim) ∧ TabAt C H0 H p m ns ∧ Fit m ns ∧ 1 ≤ m ∧ m ≤ 1000000000 ∧ ns.length ≤ 2000 ∧ LimOk val (lim ns m) (crs ns m) ∧ (∀ u, 1 ≤ u → u ≤ m → ∀ x, IsPick val (crs ns m) u x → f u = x.1) ∧
  ∀ H' t rs R, Same H H' → H' t = some (.tup rs) → AllAt (TrAt H') rs R → RangesFor m f R → Q (.ref t) H'
def spRg (C : Addr) (f : List Int → Int → Int → Nat) : Sp := fun vs H Q _ => ∃ (H0 : Hp) (p : Addr) (m : Int) (ns : List Int), vs = [.ref p] ∧ TabAt C H0 H p m ns ∧ Fit m ns ∧ 1 ≤ m ∧ m ≤ 1000000000 ∧ ns.length ≤ 2000 ∧
  ∀ H' t rs R, Same H H' → H' t = some (.tup rs) → AllAt (TrAt H') rs R → RangesFor m (f ns m) R → Q (.ref t) H'
/-- the starts, ascending -/
structure StartsL (ns : List Int) (m : Int) (L : List Nat) : Prop where
  pw : L.Pairwise (· < ·)
  mem : ∀ b, b ∈ L ↔ StartAt ns m b
def spAllStarts (C : Addr) : Sp := fun vs H Q _ => ∃ (H0 : Hp) (p : Addr) (m : Int) (ns : List Int), vs = [.ref p] ∧ TabAt C H0 H p m ns ∧ Fit m ns ∧ 1 ≤ m ∧ m ≤ 1000000000 ∧ ns.length ≤ 2000 ∧
  ∀ H' l L, Same H H' → H l = none → H' l = some (.lst (L.map natV)) → StartsL ns m L → Q (.ref l) H'
/-- the start of a future, read off the best layout -/
def startF (ns fs : List Int) (m : Int) : Nat := lastN ((blay (ns ++ fs) m).filter fun x => decide (x ≤ ns.length))
def spStartOf (K : PySem.W.Frag) : Sp := fun vs H Q _ => ∃ (m : Int) (t r : Addr) (ns fs : List Int), vs = [.int m, .ref t, .ref r] ∧ SqT K H t (ns.map V.int) ∧ SqT K H r (fs.map V.int) ∧ Fit m (ns ++ fs) ∧ 1 ≤ m ∧ m ≤ 1000000000 ∧ (ns ++ fs).length ≤ 1000 ∧
  ∀ H', Same H H' → Q (natV (startF ns fs m)) H'
def spStartsT (K : PySem.W.Frag) : Sp := fun vs H Q _ => ∃ (m : Int) (t : Addr) (ns : List Int), vs = [.int m, .ref t] ∧ SqT K H t (ns.map V.int) ∧ Fit m ns ∧ 1 ≤ m ∧ m ≤ 1000000000 ∧ ns.length ≤ 2000 ∧
  ∀ H' r L, Same H H' → SqT K H' r (L.map natV) → StartsL ns m L → Q (.ref r) H'
def spRgT (K : PySem.W.Frag) (f : List Int → Int → Int → Nat) : Sp := fun vs H Q _ => ∃ (m : Int) (t : Addr) (ns : List Int), vs = [.int m, .ref t] ∧ SqT K H t (ns.map V.int) ∧ Fit m ns ∧ 1 ≤ m ∧ m ≤ 1000000000 ∧ ns.length ≤ 2000 ∧
  ∀ H' r rs R, Same H H' → H' r = some (.tup rs) → AllAt (TrAt H') rs R → RangesFor m (f ns m) R → Q (.ref r) H'
theorem crs_at {ns : List Int} {m : Int} : (crs ns m) = crossF (nsOf ns) ns.length m := rfl
theorem crossF_yes {N : Nat → Int} {b : Nat} {r : Int} (h : 0 < r) : crossF N (b + 1) r = (b + 1, r) :: crossF N b (r - (N b + 1)) := by
  show (if 0 < r then _ else _) = _
  rw [if_pos h]
theorem crossF_no {N : Nat → Int} {b : Nat} {r : Int} (h : ¬ 0 < r) : crossF N b r = [] := by
  cases b
  all_goals
    show (if 0 < r then _ else _) = _
    rw [if_neg h]
theorem crossF_zero {N : Nat → Int} {r : Int} (h : 0 < r) : crossF N 0 r = [(0, r)] := by
  show (if 0 < r then _ else _) = _
  rw [if_pos h]
theorem log_lt {i : Int} (h0 : 0 ≤ i) (h1 : i < 2 ^ 64) : i.natAbs.log2 < 9000 := by
  by_cases z : i.natAbs = 0
  · rw [z]; decide
  · have := (Nat.log2_lt z).mpr (show i.natAbs < 2 ^ 64 by omega)
    omega
end SL

set_option Elab.async false
set_option linter.all false
set_option maxRecDepth 100000
set_option maxHeartbeats 3200000
/-! Own layer 51: set(xs) of a list of ints. -/
namespace SL
open PySem PySem.Spec PyProof.Rows L2
/-- a set at its birth -/
abbrev bareSet (w : World) : Obj := { cls := .type "set", dict := none, data := .set #[] 0 (.fresh 0 0 (!w.params.followText "set-order")) }
section
variable {P : Program} {w : World} {A : Around} {E : Value → Shared → Prop} {s : Shared}
theorem set_of_ints {l : Addr} {us : Array Value} (ns : List Int) {Q : Value → Shared → Prop} (hA : A.handled = none) (hL : s.heap.IsList l us) (hI : IntsAre us.toList ns) (hB : ns.length + 1 < scanBound)
    (q : ∀ (h2 : Heap) (tk c : Nat), SetR w h2 s.heap.objs.size (fun j => decide (j ∈ ns)) c → c ≤ ns.length → (∀ b o, s.heap.get? b = some o → h2.get? b = some o) → Q (.ref s.heap.objs.size) { s with heap := h2, toks := tk }) :
    wpAny (model P w) A (call (.type "set") [.ref l]) Q E s := by
  have eN : us.size = ns.length := by
    have z := hI.length
    rwa [Array.length_toList] at z
  obtain ⟨cl, rest, mro_set⟩ := F.called_set.mro
  have made_set := F.called_set.made
  have subs_set := F.called_set.sub
  refine wpAny_call (codeAny_of_tree ?_)
  show wpAny _ _ (callAny (.type "set") _) _ _ _
  refine wpAny_pure ⟨Code.quiet_builtin _ (by decide +kernel), codeAny_builtin F.entry_type_call ?_⟩
  rw [Around.under_plain (weight_type_call_type "set" [.ref l] []) rfl]
  have no_type := F.called_set.notType
  have creates := F.called_set.canCreate
  have calls1 := F.typeCall_set_1 (.ref l)
  repeat (any_goals (first | assumption | wp_step))
  refine codeAny_mono (code_set_led1 (.ref l) (E := E) (Q₁ := fun u z => u = .ref s.heap.objs.size ∧ z = { s with heap := s.heap.push (bareSet w) }) ⟨rfl, rfl⟩) fun r z hr => ?_
  match r, hr with
  | .error _, hr => exact hr
  | .ok .next, hr => exact hr
  | .ok .brk, hr => exact hr
  | .ok .cont, hr => exact hr
  | .ok (.ret u), hr =>
    obtain ⟨rfl, rfl⟩ := hr
    have bare : (s.heap.push (bareSet w)).get? s.heap.objs.size = some (bareSet w) := Heap.get?_push_size _ rfl
    have tyS : Shared.TypeIs { s with heap := s.heap.push (bareSet w) } (.ref s.heap.objs.size) "set" := ⟨_, bare, rfl⟩
    have init_l := F.called_set.init.lookup
    have init_b := F.called_set.init.bind (.ref s.heap.objs.size)
    repeat (any_goals (first | assumption | wp_step))
    refine codeAny_mono (codeAny_call_builtin (R := wants (fun v z => v = .none ∧ ∃ h2 tk c, z = { s with heap := h2, toks := tk } ∧ SetR w h2 s.heap.objs.size (fun j => decide (j ∈ ns)) c ∧ c ≤ ns.length ∧ (∀ b o, s.heap.get? b = some o → h2.get? b = some o)) E)
      F.called_set.init.plain F.entry_set_init (check_set_init_1 tyS ?_)) fun v z hv => ?_
    · obtain ⟨⟨oc, od, odt, osl⟩, at_l, is_l, nl, seq_l⟩ := hL
      simp only at is_l seq_l
      subst is_l seq_l
      have at_l2 : (s.heap.push (bareSet w)).get? l = some { cls := .type "list", dict := od, data := .seq us nl, slots := osl } := Heap.get?_push_of_some _ at_l
      have sub1 := F.sub_list_set
      have sub2 := F.sub_list_frozenset
      have nodict : (Value.type "list" == Value.type "dict") = false := by decide
      have list2 : (s.heap.push (bareSet w)).IsList l us := ⟨_, at_l2, rfl, nl, rfl⟩
      unfold Builtin.«set.__init__» noKeywords Builtin.Frozenset.updateFrom
      generalize eI : pyIter = it_
      wp_walk
      subst eI
      refine wpAny_pyIter_list list2 (wpAny_bind (wpAny_runValue ?_))
      have lt_l : l < s.heap.objs.size := Heap.lt_size at_l
      have hA3 : A.in1.in1.in1.handled = none := by simp [hA]
      have sz2 : (s.heap.push (bareSet w)).objs.size = s.heap.objs.size + 1 := Heap.size_push ..
      have ne_it : l ≠ (s.heap.push (bareSet w)).objs.size := by
        rw [Heap.size_push]
        exact Nat.ne_of_lt (Nat.lt_succ_of_lt lt_l)
      have ne_S : s.heap.objs.size ∉ [(s.heap.push (bareSet w)).objs.size, l] := by
        intro z
        rcases List.mem_cons.mp z with z | z
        · rw [Heap.size_push] at z
          exact Nat.ne_of_lt (Nat.lt_succ_self _) z
        · exact Nat.ne_of_gt lt_l (List.mem_singleton.mp z)
      have vals : ∀ (i : Nat) (v : Value), us[i]? = some v → ∃ k t, ns[i]? = some k ∧ v = .int k t := fun i v hv => by
        have lt_i : i < ns.length := by
          have := (Array.getElem?_eq_some_iff.mp hv).1
          omega
        obtain ⟨t, e⟩ := hI.get i _ (List.getElem?_eq_getElem lt_i)
        rw [Array.getElem?_toList, hv] at e
        exact ⟨_, t, List.getElem?_eq_getElem lt_i, Option.some.inj e⟩
      refine set_update_ints (Walks.list hA3 _ l ne_it us).toS s.heap.objs.size ne_S ns eN hB vals (us.size - 0) 0 _ (by omega) (Nat.zero_le _) ⟨⟨_, Heap.get?_push_size _ rfl, rfl, rfl⟩, list2.push _⟩ ?_ ?_
      · exact ⟨0, Nat.le_refl 0, setR_new_at (Heap.get?_push_of_some _ bare)⟩
      · intro z c' hm hc' hS'
        obtain ⟨h2, g2, d2, tk2, os2⟩ := z
        obtain rfl : g2 = s.gens := hm.gens
        obtain rfl : d2 = s.drawn := hm.drawn
        obtain rfl : os2 = s.os := hm.os
        show wpAny _ _ _ _ _ _
        refine wpAny_pure ?_
        show wpAny _ _ (ret Value.none) _ _ _
        rw [eN] at hc'
        refine wpAny_pure ⟨rfl, h2, tk2, c', rfl, hS', hc', fun b o e => ?_⟩
        have lt_b : b < s.heap.objs.size := Heap.lt_size e
        refine hm.heap b o (fun z => ?_) (Heap.get?_push_of_some _ (Heap.get?_push_of_some _ e))
        rcases List.mem_cons.mp z with z | z
        · exact Nat.ne_of_lt lt_b z
        · have z := List.mem_singleton.mp z
          rw [Heap.size_push] at z
          exact Nat.ne_of_lt (Nat.lt_succ_of_lt lt_b) z
    · match v, hv with
      | .error _, hv => exact hv
      | .ok .next, hv => exact hv.elim
      | .ok .brk, hv => exact hv.elim
      | .ok .cont, hv => exact hv.elim
      | .ok (.ret _), hv =>
        obtain ⟨rfl, h2, tk, c, rfl, hS, hc, hk⟩ := hv
        repeat (any_goals (first | assumption | wp_step))
        exact q _ _ _ hS hc hk
end
section
variable {X : Cx}
def rSetL (K : PySem.W.Frag) (w : World) : List V → Hp → VK → Prop := fun vs H Q => ∃ (p : Addr) (ns : List Int), vs = [.ref p] ∧ SqL K H p (ns.map V.int) ∧ ns.length ≤ 4090 ∧ ∀ a H', H a = none → H' a = some (SetIO w a ns) → Same H H' → Q (.ref a) H'
/-- set(xs) -/
theorem cr_setL (hc : X.calm = true) : CallR X (.type "set") (rSetL X.K X.w) := by
  intro pins s σ H vs us Q I r h
  obtain ⟨p, ns, rfl, hs, hl, q⟩ := h
  rw [Vals.ref1 r]
  obtain ⟨its, rv, pt, hz⟩ := I.list hs
  refine set_of_ints ns (I.ok.hd hc) pt.isList (ints_of_vals rv) (by unfold scanBound; omega) fun h2 tk c R hcn k => ?_
  exact ⟨.ref s.heap.objs.size, upd H s.heap.objs.size (SetIO X.w s.heap.objs.size ns), I.laid (t' := tk) k (Nat.le_refl _) (setIO_new hcn R), rfl, q _ _ (I.hok.fresh (Nat.le_refl _)) upd_same (Same.new (I.hok.fresh (Nat.le_refl _)))⟩
end
end SL

set_option Elab.async false
set_option linter.all false
set_option maxRecDepth 100000
set_option maxHeartbeats 1000000
/-! Own layer 52: small facts for the envelope's loop. -/
namespace SL
open PySem PySem.Spec PyProof.Rows L2
theorem AllAt.unpush {α : Type} {R : Addr → α → Prop} {rs : List V} {ps : List α} {p : α} (h : AllAt R rs (ps ++ [p])) : ∃ rs' a, rs = rs' ++ [.ref a] ∧ AllAt R rs' ps ∧ R a p := by
  obtain ⟨h1, h2⟩ := h
  rw [List.length_append] at h1
  have h1 : rs.length = ps.length + 1 := h1
  obtain ⟨a, ha, hr⟩ := h2 ps.length p (by rw [List.getElem?_append_right (Nat.le_refl _)]; simp)
  have hne : rs ≠ [] := fun z => by rw [z] at h1; simp at h1
  have hd := List.dropLast_concat_getLast hne
  have hlast : rs.getLast hne = .ref a := by
    have : rs[rs.length - 1]? = some (.ref a) := by rw [h1]; exact ha
    rw [← List.getLast?_eq_getElem?, List.getLast?_eq_some_getLast hne] at this
    exact Option.some.inj this
  refine ⟨rs.dropLast, a, by rw [← hlast]; exact hd.symm, ⟨by rw [List.length_dropLast]; omega, fun i q hq => ?_⟩, hr⟩
  have hi : i < ps.length := (List.getElem?_eq_some_iff.mp hq).1
  obtain ⟨b, hb, hrb⟩ := h2 i q (by rw [List.getElem?_append_left hi]; exact hq)
  exact ⟨b, by rw [List.getElem?_dropLast, if_pos (by omega)]; exact hb, hrb⟩
theorem EnvOk.single {val : Nat × Int → Int → Int} {M : Int} {c : Nat × Int} (h0 : 0 < M) (h : c.2 = M) : EnvOk val M [c] [(c.2, c)] := by
  refine ⟨fun u h1 h2 => ⟨[], (c.2, c), [], rfl, (fun _ z => nomatch z), by show u ≤ c.2; omega, by simp, by show u ≤ c.2; omega, fun y hy _ => ?_⟩, List.pairwise_singleton _ _, fun e he => ?_, ⟨[], c, by rw [h]; rfl, h⟩⟩
  · obtain rfl := List.mem_singleton.mp hy
    exact ⟨Int.le_refl _, fun z => absurd z (Nat.lt_irrefl _)⟩
  · obtain rfl := List.mem_singleton.mp he
    exact ⟨by simp, by show 0 < c.2; omega, by show c.2 ≤ M; omega⟩
/-- the greatest range is never taken whole -/
theorem EnvOk.rest {val : Nat × Int → Int → Int} {lim : Nat × Int → Nat × Int → Int} {M : Int} {L Lall : List (Nat × Int)} {kept d : List (Int × (Nat × Int))} {c : Nat × Int} (h0 : 1 ≤ M) (E : EnvOk val M L kept) (hl : LimOk val lim Lall) (hsub : ∀ x ∈ L, x ∈ Lall) (hc : c ∈ Lall)
    (hroom : ∀ x ∈ L, c.1 < x.1 ∧ c.2 < x.2) (hd : ∀ x ∈ kept, x.1 ≤ lim c x.2) : False := by
  obtain ⟨d, x, e, hx⟩ := E.last
  have hm : (M, x) ∈ kept := by rw [e]; simp
  have h1 := hd _ hm
  have hxL := (E.mem _ hm).1
  have h2 := ((hl c hc x (hsub x hxL) (hroom x hxL).2 M h0).mp h1).1
  have h3 := (hroom x hxL).2
  omega
theorem crs_head {ns : List Int} {m : Int} (hm : 1 ≤ m) : (crs ns m)[0]? = some (ns.length, m) := by
  unfold crs
  cases h : ns.length with
  | zero => rw [crossF_zero (by omega)]; rfl
  | succ n => rw [crossF_yes (by omega)]; rfl
theorem crossF_len {N : Nat → Int} : ∀ {b : Nat} {r : Int}, (crossF N b r).length ≤ b + 1
  | 0, r => by
    by_cases h : 0 < r
    · rw [crossF_zero h]; exact Nat.le_refl _
    · rw [crossF_no h]; exact Nat.zero_le _
  | b + 1, r => by
    by_cases h : 0 < r
    · rw [crossF_yes h]
      have := crossF_len (N := N) (b := b) (r := r - (N b + 1))
      show _ + 1 ≤ _
      omega
    · rw [crossF_no h]; exact Nat.zero_le _
def lowAfter : Int → List (Int × (Nat × Int)) → Int
  | lo, [] => lo
  | _, e :: k => lowAfter (e.1 + 1) k
theorem rgs_app : ∀ (lo : Int) (k : List (Int × (Nat × Int))) (e : Int × (Nat × Int)), rgs lo (k ++ [e]) = rgs lo k ++ [(lowAfter lo k, e.1, e.2.1)]
  | _, [], _ => rfl
  | _, x :: k, e => by
    show _ :: rgs (x.1 + 1) (k ++ [e]) = _
    rw [rgs_app (x.1 + 1) k e]
    rfl
theorem lowAfter_app : ∀ (lo : Int) (k : List (Int × (Nat × Int))) (e : Int × (Nat × Int)), lowAfter lo (k ++ [e]) = e.1 + 1
  | _, [], _ => rfl
  | _, x :: k, e => lowAfter_app (x.1 + 1) k e
theorem rgs_len : ∀ (lo : Int) (k : List (Int × (Nat × Int))), (rgs lo k).length = k.length
  | _, [] => rfl
  | _, x :: k => congrArg Nat.succ (rgs_len (x.1 + 1) k)
theorem pw_len : ∀ (l : List Nat) (lo N : Nat), l.Pairwise (· < ·) → (∀ x ∈ l, lo ≤ x ∧ x ≤ N) → l.length + lo ≤ N + 1 ∨ l = []
  | [], _, _, _, _ => .inr rfl
  | x :: l, lo, N, hp, h => by
    obtain ⟨h1, h2⟩ := List.pairwise_cons.mp hp
    have hx := h x (List.mem_cons_self ..)
    rcases pw_len l (x + 1) N h2 (fun y hy => ⟨h1 y hy, (h y (List.mem_cons_of_mem _ hy)).2⟩) with a | a
    · left
      show l.length + 1 + lo ≤ _
      omega
    · left
      rw [a]
      show 0 + 1 + lo ≤ _
      omega
theorem RangesFor.len {m : Int} {f : Int → Nat} {R : List (Int × Int × Nat)} {N : Nat} (h : RangesFor m f R) (f_le : ∀ u, 1 ≤ u → u ≤ m → f u ≤ N) : R.length ≤ N + 1 := by
  rcases pw_len (R.map fun p => p.2.2) 0 N (List.pairwise_map.mpr h.pw) (fun x hx => by
    obtain ⟨p, hp, rfl⟩ := List.mem_map.mp hx
    obtain ⟨a1, a2, a3, a4⟩ := h.cov.mem p hp
    have := f_le p.1 a1 (by omega)
    rw [a4 p.1 (Int.le_refl _) a2] at this
    exact ⟨Nat.zero_le _, this⟩) with a | a
  · rw [List.length_map] at a
    omega
  · rw [List.map_eq_nil_iff.mp a]
    exact Nat.zero_le _
theorem AllAt.app {α : Type} {R : Addr → α → Prop} {rs ss : List V} {ps qs : List α} (h : AllAt R rs ps) (g : AllAt R ss qs) : AllAt R (rs ++ ss) (ps ++ qs) := by
  obtain ⟨h1, h2⟩ := h
  obtain ⟨g1, g2⟩ := g
  refine ⟨by rw [List.length_append, List.length_append, h1, g1], fun i p hp => ?_⟩
  by_cases hi : i < ps.length
  · rw [List.getElem?_append_left hi] at hp
    rw [List.getElem?_append_left (by omega)]
    exact h2 i p hp
  · rw [List.getElem?_append_right (by omega)] at hp
    rw [List.getElem?_append_right (by omega), h1]
    exact g2 _ p hp
theorem Chain.asc {ns : List Int} {m : Int} : ∀ {lo : Nat} {es : List Nat} {hi : Nat}, Chain ns m lo es hi → es.Pairwise (· < ·) ∧ ∀ e ∈ es, lo < e
  | _, [], _, _ => ⟨.nil, fun _ z => nomatch z⟩
  | lo, e :: es, hi, h => by
    obtain ⟨h1, _, h3⟩ := h
    obtain ⟨a, b⟩ := Chain.asc h3
    refine ⟨List.pairwise_cons.mpr ⟨b, a⟩, fun x hx => ?_⟩
    rcases List.mem_cons.mp hx with rfl | hx
    · exact h1
    · have := b x hx
      omega
theorem max_last {l : List Nat} (h : l.Pairwise (· < ·)) {mx : Int} (h0 : l.map (fun x : Nat => (x : Int)) = [] → mx = 0) (h1 : l.map (fun x : Nat => (x : Int)) ≠ [] → mx ∈ l.map (fun x : Nat => (x : Int)) ∧ ∀ y ∈ l.map (fun x : Nat => (x : Int)), y ≤ mx) : mx = (lastN l : Int) := by
  by_cases hl : l = []
  · rw [h0 (by rw [hl]; rfl), hl]
    rfl
  · obtain ⟨a, b⟩ := h1 (fun z => hl (List.map_eq_nil_iff.mp z))
    obtain ⟨x, hx, rfl⟩ := List.mem_map.mp a
    have e : l = l.dropLast ++ [l.getLast hl] := (List.dropLast_concat_getLast hl).symm
    have e2 : lastN l = l.getLast hl := by
      unfold lastN
      rw [List.getLast?_eq_some_getLast hl]
      rfl
    have hle := b _ (List.mem_map.mpr ⟨_, List.getLast_mem hl, rfl⟩)
    rw [e2]
    rw [e] at hx h
    rcases List.mem_append.mp hx with hx | hx
    · have := (List.pairwise_append.mp h).2.2 x hx _ (List.mem_singleton.mpr rfl)
      omega
    · rw [List.mem_singleton.mp hx]
/-- a text of up to so many words -/
def spDrawn (K : PySem.W.Frag) : Sp := fun vs H Q _ => ∃ (p : Addr) (m k : Int) (n : Nat), vs = [.ref p, .int m, .int k] ∧ PotAt H p n ∧ n < 900000 ∧ 1 ≤ m ∧ m ≤ 1000000000 ∧ 0 ≤ k ∧ k ≤ 60 ∧
  ∀ H' t (ns : List Int), Kp p H H' → PotAt H' p (n + 250) → H' t = some (.tup (ns.map V.int)) → (ns.length : Int) ≤ k → (∀ x ∈ ns, 1 ≤ x ∧ x ≤ m) → Q (.ref t) H'
theorem five_at {a b c d e w m : Int} (h0 : 0 ≤ w) (h1 : w < 5) (ha : 1 ≤ a ∧ a ≤ m) (hb : 1 ≤ b ∧ b ≤ m) (hc : 1 ≤ c ∧ c ≤ m) (hd : 1 ≤ d ∧ d ≤ m) (he : 1 ≤ e ∧ e ≤ m) :
    ∃ x : Int, atI [V.int a, V.int b, V.int c, V.int d, V.int e] w = some (.int x) ∧ 1 ≤ x ∧ x ≤ m := by
  have h : w = 0 ∨ w = 1 ∨ w = 2 ∨ w = 3 ∨ w = 4 := by omega
  rcases h with rfl | rfl | rfl | rfl | rfl
  · exact ⟨a, rfl, ha⟩
  · exact ⟨b, rfl, hb⟩
  · exact ⟨c, rfl, hc⟩
  · exact ⟨d, rfl, hd⟩
  · exact ⟨e, rfl, he⟩
end SL

set_option Elab.async false
set_option linter.all false
set_option maxRecDepth 100000
set_option maxHeartbeats 1000000
/-! Own layer 53: starts by formula; ranges as data. -/
namespace SL
open PySem PySem.Spec PyProof.Rows L2
def trD (p : Int × Int × Nat) : PyData := .tuple [.int p.1, .int p.2.1, .int (p.2.2 : Int)]
theorem dp_ranges {K : PySem.W.Frag} {H : Hp} : ∀ {rs : List V} {R : List (Int × Int × Nat)}, AllAt (TrAt H) rs R → DpAll K H rs (R.map trD)
  | [], [], _ => .nil
  | [], _ :: _, h => nomatch h.1
  | _ :: _, [], h => nomatch h.1
  | x :: xs, p :: ps, h => by
    obtain ⟨a, e, k⟩ := h.2 0 _ rfl
    obtain rfl : x = .ref a := Option.some.inj e
    exact .cons (.tup (SqT.of k) (.cons (.int _) (.cons (.int _) (.cons (.int _) .nil)))) (dp_ranges h.tail)
theorem lastN_path {ns : List Int} {m : Int} (hF : Fit m ns) {s : Nat} (h : s ≤ ns.length) : lastN (pathOf ns m s) = s := (pathOf_pth hF h).last
theorem filter_path {ns : List Int} {m : Int} (hF : Fit m ns) {s : Nat} (h : s ≤ ns.length) (t : List Nat) (ht : ∀ x ∈ t, ns.length < x) : (pathOf ns m s ++ t).filter (fun x => decide (x ≤ ns.length)) = pathOf ns m s := by
  rw [List.filter_append, List.filter_eq_self.mpr (fun x hx => by have := (pathOf_le hF h hx).2; simp; omega), List.filter_eq_nil_iff.mpr (fun x hx => by have := ht x hx; simp; omega), List.append_nil]
theorem startF_one {ns : List Int} {m u : Int} (hF : Fit m ns) (h1 : 1 ≤ u) (h2 : u ≤ m) : startF ns [u] m = startO ns m u := by
  unfold startF
  rw [fut_open hF h1 h2, filter_path hF (startO_le hF h1 h2) _ (fun x hx => by obtain rfl := List.mem_singleton.mp hx; omega), lastN_path hF (startO_le hF h1 h2)]
theorem startF_two {ns : List Int} {m u : Int} (hF : Fit m ns) (h1 : 1 ≤ u) (h2 : u ≤ m) : startF ns [u, m] m = startC ns m u := by
  unfold startF
  rw [fut_closed hF h1 h2, filter_path hF (startC_le hF h1 h2) _ (fun x hx => by simp at hx; omega), lastN_path hF (startC_le hF h1 h2)]
theorem ranges_const {m : Int} {f : Int → Nat} {n : Nat} (hm : 1 ≤ m) (h : ∀ u, 1 ≤ u → u ≤ m → f u = n) : RangesFor m f [(1, m, n)] :=
  ⟨.cons hm (Int.le_refl _) h .nil, List.pairwise_singleton _ _⟩
theorem asc_uni : ∀ {L L' : List Nat}, L.Pairwise (· < ·) → L'.Pairwise (· < ·) → (∀ b, b ∈ L ↔ b ∈ L') → L = L'
  | [], [], _, _, _ => rfl
  | [], y :: _, _, _, h => nomatch (h y).mpr (List.mem_cons_self ..)
  | x :: _, [], _, _, h => nomatch (h x).mp (List.mem_cons_self ..)
  | x :: L, y :: L', h1, h2, h => by
    obtain ⟨a1, a2⟩ := List.pairwise_cons.mp h1
    obtain ⟨b1, b2⟩ := List.pairwise_cons.mp h2
    have e : x = y := by
      rcases List.mem_cons.mp ((h x).mp (List.mem_cons_self ..)) with e | e
      · exact e
      · have := b1 x e
        rcases List.mem_cons.mp ((h y).mpr (List.mem_cons_self ..)) with e2 | e2
        · omega
        · have := a1 y e2
          omega
    subst e
    congr 1
    refine asc_uni a2 b2 fun b => ⟨fun hb => ?_, fun hb => ?_⟩
    · have := a1 b hb
      rcases List.mem_cons.mp ((h b).mp (List.mem_cons_of_mem _ hb)) with e | e
      · omega
      · exact e
    · have := b1 b hb
      rcases List.mem_cons.mp ((h b).mpr (List.mem_cons_of_mem _ hb)) with e | e
      · omega
      · exact e
theorem StartsL.uni {ns : List Int} {m : Int} {L L' : List Nat} (h : StartsL ns m L) (h' : StartsL ns m L') : L = L' := asc_uni h.pw h'.pw fun b => (h.mem b).trans (h'.mem b).symm
theorem starts_const {ns : List Int} {m : Int} {n : Nat} (hm : 1 ≤ m) (h : ∀ u, 1 ≤ u → u ≤ m → startC ns m u = n ∧ startO ns m u = n) : StartsL ns m [n] := by
  refine ⟨List.pairwise_singleton _ _, fun b => ?_⟩
  rw [List.mem_singleton]
  constructor
  · rintro rfl
    exact ⟨1, Int.le_refl _, hm, .inl (h 1 (Int.le_refl _) hm).1.symm⟩
  · rintro ⟨u, h1, h2, e | e⟩
    · rw [e]; exact (h u h1 h2).1
    · rw [e]; exact (h u h1 h2).2
/-- behind a text whose last word leaves no room for a blank and a letter -/
theorem end_full {ns : List Int} {m : Int} (hF : Fit m ns) (hl : ns = [] ∨ ∃ ms x, ns = ms ++ [x] ∧ m ≤ x + 1) {u : Int} (h1 : 1 ≤ u) (h2 : u ≤ m) : startC ns m u = ns.length ∧ startO ns m u = ns.length := by
  have hF2 := fit_push hF h1 h2
  have key : ∀ s, s ≤ ns.length → lenL (ns ++ [u]) s (ns.length + 1) ≤ m → s = ns.length := fun s hs hle => by
    by_cases h : s = ns.length
    · exact h
    · rcases hl with rfl | ⟨ms, x, rfl, hx⟩
      · simp at hs h
        omega
      · have el : (ms ++ [x]).length = ms.length + 1 := by simp
        rw [lenL_add (c := (ms ++ [x]).length) (by omega) (by omega) (by simp), lenL_last, lenL_appl (Nat.le_refl _)] at hle
        have h3 := lenL_mono (fit_pos hF) (Nat.le_refl (ms ++ [x]).length) (ms.length - s) s (by omega)
        rw [show s + (ms.length - s) = ms.length by omega, el, lenL_last] at h3
        rw [el] at hle
        omega
  constructor
  · obtain ⟨a1, a2, _⟩ := fB_spec hF2 (e := ns.length) (by simp)
    exact key _ a1 a2
  · obtain ⟨a1, a2⟩ := lB_line hF2 (by simp)
    rw [show (ns ++ [u]).length = ns.length + 1 by simp] at a1 a2
    show lB (ns ++ [u]) m = ns.length
    exact key _ (by omega) a2
/-! one word -/
theorem fit_one {m x : Int} (h1 : 1 ≤ x) (h2 : x ≤ m) : Fit m [x] := fit_of fun y hy => by obtain rfl := List.mem_singleton.mp hy; exact ⟨h1, h2⟩
theorem csN_zero {ns : List Int} {m : Int} : csN ns m 0 = 0 := by
  unfold csN
  rw [cs_pre (Nat.le_refl 0) (Nat.zero_le _)]
  rfl
theorem csN_one {m x : Int} (h1 : 1 ≤ x) (h2 : x ≤ m) : csN [x] m 1 = (m - x) ^ 2 := by
  have h := fB_cost (fit_one h1 h2) (by simp)
  have hlt := fB_lt' (fit_one h1 h2) (show 1 ≤ 1 by decide) (by simp)
  have e0 : fB (nsOf [x]) m [x].length = 0 := by
    have : fB (nsOf [x]) m 1 < 1 := hlt
    show fB (nsOf [x]) m 1 = 0
    omega
  rw [e0, csN_zero] at h
  have e1 : lenL [x] 0 [x].length = x := lenL_one (ns := [x]) (b := 0) (by simp)
  rw [e1] at h
  have h : csN [x] m 1 = 0 + (m - x) ^ 2 := h
  omega
theorem single_room {m x u : Int} (h1 : 1 ≤ x) (hu : 1 ≤ u) (h : x + 1 + u ≤ m) : startC [x] m u = 0 ∧ startO [x] m u = 0 := by
  have hF := fit_one (m := m) h1 (by omega)
  have hF2 := fit_push hF hu (show u ≤ m by omega)
  have l0 : lenL ([x] ++ [u]) 0 2 = x + 1 + u := by
    rw [lenL_add (c := 1) (by decide) (by decide) (by simp)]
    have e1 : lenL ([x] ++ [u]) 0 1 = x := lenL_one (ns := [x] ++ [u]) (b := 0) (by simp)
    have e2 : lenL ([x] ++ [u]) 1 2 = u := lenL_one (ns := [x] ++ [u]) (b := 1) (by simp)
    rw [e1, e2]
  have l1 : lenL ([x] ++ [u]) 1 2 = u := lenL_one (ns := [x] ++ [u]) (b := 1) (by simp)
  have c0 : ∀ k, (cs (nsOf ([x] ++ [u])) m k).getD 0 0 = 0 := fun k => by
    rw [cs_pre (Nat.le_refl 0) (Nat.zero_le _)]
    rfl
  have c1 : ∀ k, 1 ≤ k → (cs (nsOf ([x] ++ [u])) m k).getD 1 0 = (m - x) ^ 2 := fun k hk => by
    have := cs_ext2 (ns := [x]) (fs := [u]) (m := m) (b := 1) (k := k) (by simp) hk
    rw [this, csN_one h1 (by omega)]
  have hpos : 0 < (m - x) ^ 2 := sq_pos (by omega)
  constructor
  · refine fB_char hF2 (e := 1) (by simp) (Nat.zero_le _) (by show lenL ([x] ++ [u]) 0 2 ≤ m; omega) fun b hb hl => ?_
    show (cs (nsOf ([x] ++ [u])) m 1).getD 0 0 + (m - lenL ([x] ++ [u]) 0 2) ^ 2 ≤ (cs (nsOf ([x] ++ [u])) m 1).getD b 0 + (m - lenL ([x] ++ [u]) b 2) ^ 2 ∧ (0 < b → (cs (nsOf ([x] ++ [u])) m 1).getD 0 0 + (m - lenL ([x] ++ [u]) 0 2) ^ 2 < (cs (nsOf ([x] ++ [u])) m 1).getD b 0 + (m - lenL ([x] ++ [u]) b 2) ^ 2)
    match b, hb with
    | 0, _ => exact ⟨Int.le_refl _, fun h => absurd h (Nat.lt_irrefl _)⟩
    | 1, _ =>
      rw [l0, l1, c0, c1 1 (Nat.le_refl _)]
      have := sq_mono (a := m - (x + 1 + u)) (b := m - u) (by omega) (by omega)
      constructor
      · omega
      · intro _; omega
  · have el : ([x] ++ [u]).length = 2 := rfl
    refine lB_char hF2 (by simp) (by rw [el, l0]; exact h) fun b hb hl => ?_
    unfold csN
    rw [el] at hb ⊢
    match b, hb with
    | 0, _ => exact ⟨Int.le_refl _, fun h => absurd h (Nat.lt_irrefl _)⟩
    | 1, _ =>
      rw [c0, c1 2 (by decide)]
      exact ⟨by omega, fun _ => hpos⟩
theorem single_no_room {m x u : Int} (h1 : 1 ≤ x) (hx : x ≤ m) (hu : 1 ≤ u) (hum : u ≤ m) (h : m < x + 1 + u) : startC [x] m u = 1 ∧ startO [x] m u = 1 := by
  have hF := fit_one (m := m) h1 hx
  have hF2 := fit_push hF hu hum
  have l0 : lenL ([x] ++ [u]) 0 2 = x + 1 + u := by
    rw [lenL_add (c := 1) (by decide) (by decide) (by simp)]
    have e1 : lenL ([x] ++ [u]) 0 1 = x := lenL_one (ns := [x] ++ [u]) (b := 0) (by simp)
    have e2 : lenL ([x] ++ [u]) 1 2 = u := lenL_one (ns := [x] ++ [u]) (b := 1) (by simp)
    rw [e1, e2]
  have key : ∀ s, s ≤ 1 → lenL ([x] ++ [u]) s 2 ≤ m → s = 1 := fun s hs hle => by
    match s, hs with
    | 0, _ => rw [l0] at hle; omega
    | 1, _ => rfl
  constructor
  · obtain ⟨a1, a2, _⟩ := fB_spec hF2 (e := 1) (by simp)
    exact key _ a1 a2
  · obtain ⟨a1, a2⟩ := lB_line hF2 (by simp)
    show lB ([x] ++ [u]) m = 1
    have e : ([x] ++ [u]).length = 2 := rfl
    rw [e] at a1 a2
    exact key _ (by omega) a2
theorem ranges_two {m last : Int} {f : Int → Nat} (h1 : 1 ≤ last) (h2 : last < m) (h3 : ∀ u, 1 ≤ u → u ≤ last → f u = 0) (h4 : ∀ u, last < u → u ≤ m → f u = 1) : RangesFor m f [(1, last, 0), (last + 1, m, 1)] :=
  ⟨.cons h1 (by omega) h3 (.cons (by omega) (Int.le_refl _) (fun u a b => h4 u (by omega) b) .nil), by simp⟩
theorem starts_two {ns : List Int} {m last : Int} (h1 : 1 ≤ last) (h2 : last < m) (h3 : ∀ u, 1 ≤ u → u ≤ last → startC ns m u = 0 ∧ startO ns m u = 0) (h4 : ∀ u, last < u → u ≤ m → startC ns m u = 1 ∧ startO ns m u = 1) : StartsL ns m [0, 1] := by
  refine ⟨by simp, fun b => ?_⟩
  constructor
  · intro hb
    rcases List.mem_cons.mp hb with rfl | hb
    · exact ⟨1, Int.le_refl _, by omega, .inl (h3 1 (Int.le_refl _) h1).1.symm⟩
    · obtain rfl := List.mem_singleton.mp hb
      exact ⟨m, by omega, Int.le_refl _, .inl (h4 m h2 (Int.le_refl _)).1.symm⟩
  · rintro ⟨u, a, b2, e⟩
    by_cases hu : u ≤ last
    · rcases e with e | e
      · rw [e, (h3 u a hu).1]; simp
      · rw [e, (h3 u a hu).2]; simp
    · rcases e with e | e
      · rw [e, (h4 u (by omega) b2).1]; simp
      · rw [e, (h4 u (by omega) b2).2]; simp
def spEndRight (K : PySem.W.Frag) : Sp := fun vs H Q _ => ∃ (m : Int) (t : Addr) (ns : List Int), vs = [.int m, .ref t] ∧ SqT K H t (ns.map V.int) ∧ Fit m ns ∧ ns.length ≤ 100 ∧ 1 ≤ m ∧ m ≤ 1000000000 ∧ (ns = [] ∨ ∃ ms x, ns = ms ++ [x] ∧ m ≤ x + 1) ∧ ∀ H', Same H H' → Q (.bl true) H'
def spSingleRight : Sp := fun vs H Q _ => ∃ (m x : Int), vs = [.int m, .int x] ∧ 1 ≤ x ∧ x ≤ m ∧ m ≤ 1000000000 ∧ ∀ H', Same H H' → Q (.bl true) H'
end SL

set_option Elab.async false
set_option linter.all false
set_option maxRecDepth 100000
set_option maxHeartbeats 1000000
/-! Own layer 54: the laws' own tables of the second family. -/
namespace SL
open PySem PySem.Spec PyProof.Rows L2
/-- the least so far, None at first; where -/
def yL (rs : List (Int × Nat)) : V := if rs = [] then .non else .int (least rs)
def yA (rs : List (Int × Nat)) : V := if rs = [] then .int 0 else natV (hd rs)
theorem yL_nil : yL [] = .non := rfl
theorem yL_ne {rs : List (Int × Nat)} (h : rs ≠ []) : yL rs = .int (least rs) := by unfold yL; rw [if_neg h]
theorem yA_ne {rs : List (Int × Nat)} (h : rs ≠ []) : yA rs = natV (hd rs) := by unfold yA; rw [if_neg h]
theorem yy_push (rs : List (Int × Nat)) (x : Int × Nat) : (rs = [] ∨ x.1 < least rs → yL (rs ++ [x]) = .int x.1 ∧ yA (rs ++ [x]) = natV x.2) ∧ (rs ≠ [] → ¬ x.1 < least rs → yL (rs ++ [x]) = yL rs ∧ yA (rs ++ [x]) = yA rs) := by
  have hne : rs ++ [x] ≠ [] := by simp
  rw [yL_ne hne, yA_ne hne]
  constructor
  · intro h
    by_cases h0 : rs = []
    · rw [h0]
      exact ⟨rfl, congrArg natV (hd_one x)⟩
    · have h := h.resolve_left h0
      rw [least_push h0, hd_push h0, if_pos h, if_pos h]
      exact ⟨rfl, rfl⟩
  · intro h0 h
    rw [least_push h0, hd_push h0, if_neg h, if_neg h, yL_ne h0, yA_ne h0]
    exact ⟨rfl, rfl⟩
def spTab2 (K : PySem.W.Frag) : Sp := fun vs H Q _ => ∃ (m : Int) (t : Addr) (ns : List Int), vs = [.int m, .ref t] ∧ SqT K H t (ns.map V.int) ∧ Fit m ns ∧ 1 ≤ m ∧ m ≤ 1000000000 ∧ ns.length ≤ 1000 ∧
  ∀ H' r lp lb, Same H H' → H' r = some (.tup [.ref lp, .ref lb]) → H' lp = some (.lst ((cs (nsOf ns) m ns.length).map V.int)) → H' lb = some (.lst ((bgs (nsOf ns) m ns.length).map natV)) → Q (.ref r) H'
def spChain2 (K : PySem.W.Frag) : Sp := fun vs H Q _ => ∃ (m : Int) (l : Addr) (ns : List Int) (e : Nat), vs = [.ref l, natV e] ∧ H l = some (.lst ((bgs (nsOf ns) m ns.length).map natV)) ∧ Fit m ns ∧ e ≤ ns.length ∧ ns.length ≤ 1000 ∧
  ∀ H' r, Same H H' → SqT K H' r ((pathOf ns m e).map natV) → Q (.ref r) H'
def spEnds2 (K : PySem.W.Frag) : Sp := fun vs H Q _ => ∃ (m : Int) (t : Addr) (ns : List Int), vs = [.int m, .ref t] ∧ SqT K H t (ns.map V.int) ∧ Fit m ns ∧ 1 ≤ m ∧ m ≤ 1000000000 ∧ ns.length ≤ 1000 ∧
  ∀ H' r, Same H H' → SqT K H' r ((blay ns m).map natV) → Q (.ref r) H'
def spBegin2 (K : PySem.W.Frag) : Sp := fun vs H Q _ => ∃ (m : Int) (t r : Addr) (ns fs : List Int), vs = [.int m, .ref t, .ref r] ∧ SqT K H t (ns.map V.int) ∧ SqT K H r (fs.map V.int) ∧ Fit m (ns ++ fs) ∧ 1 ≤ m ∧ m ≤ 1000000000 ∧ (ns ++ fs).length ≤ 1000 ∧
  ∀ H', Same H H' → Q (natV (startF ns fs m)) H'
theorem lastN_cons0 (l : List Nat) : lastN (0 :: l) = lastN l := by
  unfold lastN
  cases l with
  | nil => rfl
  | cons x l => rfl
end SL

set_option Elab.async false
set_option linter.all false
set_option maxRecDepth 100000
set_option maxHeartbeats 1000000
/-! Own layer 55: neighbouring words of one start are put together. -/
namespace SL
open PySem PySem.Spec PyProof.Rows L2
def AdjNe : List (Int × Int × Nat) → Prop
  | p :: q :: r => p.2.2 ≠ q.2.2 ∧ AdjNe (q :: r)
  | _ => True
theorem AdjNe.of_pw : ∀ {R : List (Int × Int × Nat)}, (R.Pairwise fun p q => p.2.2 < q.2.2) → AdjNe R
  | [], _ => trivial
  | [_], _ => trivial
  | p :: q :: r, h => by
    obtain ⟨h1, h2⟩ := List.pairwise_cons.mp h
    refine ⟨?_, AdjNe.of_pw h2⟩
    have := h1 q (List.mem_cons_self ..)
    omega
theorem AdjNe.tail {p : Int × Int × Nat} {R : List (Int × Int × Nat)} (h : AdjNe (p :: R)) : AdjNe R := by
  cases R with
  | nil => trivial
  | cons q r => exact h.2
theorem Cov.uniA {f : Int → Nat} {m lo : Int} : ∀ {R R' : List (Int × Int × Nat)}, Cov f m lo R → Cov f m lo R' → AdjNe R → AdjNe R' → R = R'
  | [], [], _, _, _, _ => rfl
  | [], _ :: _, h, h', _, _ => by
    have := h.low.2 rfl
    cases h' with
    | cons a b _ _ => omega
  | _ :: _, [], h, h', _, _ => by
    have := h'.low.2 rfl
    cases h with
    | cons a b _ _ => omega
  | p :: R, q :: R', h, h', w, w' => by
    cases h with
    | @cons lo hi b R a1 a2 a3 a4 =>
      cases h' with
      | @cons _ hi' b' R' b1 b2 b3 b4 =>
        have eb : b = b' := (a3 lo (Int.le_refl _) a1).symm.trans (b3 lo (Int.le_refl _) b1)
        subst eb
        have no : ∀ {x y z0 : Int} {l0 h0 : Int} {S : List (Int × Int × Nat)}, lo ≤ x → x < y → y ≤ m → (∀ u, lo ≤ u → u ≤ y → f u = b) → Cov f m z0 S → z0 = x + 1 → AdjNe ((l0, h0, b) :: S) → False := fun {x y z0 l0 h0' S} h0 h1 h2 h3 h4 hz h5 => by
          cases h4 with
          | nil => omega
          | @cons _ z c S c1 c2 c3 c4 =>
            have e : b ≠ c := h5.1
            have e1 := c3 (x + 1) (by omega) (by omega)
            have e2 := h3 (x + 1) (by omega) (by omega)
            omega
        have eh : hi = hi' := by
          rcases Int.lt_trichotomy hi hi' with h | h | h
          · exact (no a1 h b2 b3 a4 rfl w).elim
          · exact h
          · exact (no b1 h a2 a3 b4 rfl w').elim
        subst eh
        rw [Cov.uniA a4 b4 w.tail w'.tail]
theorem RangesFor.uniA {m : Int} {f : Int → Nat} {R R' : List (Int × Int × Nat)} (h : RangesFor m f R) (h' : Cov f m 1 R') (a : AdjNe R') : R = R' := Cov.uniA h.cov h' (.of_pw h.pw) a
theorem Cov.snoc {f : Int → Nat} {i lo : Int} {R : List (Int × Int × Nat)} (h : Cov f i lo R) : Cov f (i + 1) lo (R ++ [(i + 1, i + 1, f (i + 1))]) := by
  induction h with
  | nil => exact .cons (Int.le_refl _) (Int.le_refl _) (fun u a b => by rw [show u = i + 1 by omega]) .nil
  | cons a1 a2 a3 _ ih => exact .cons a1 (by omega) a3 ih
theorem Cov.last {f : Int → Nat} {i lo : Int} {F0 : List (Int × Int × Nat)} {l h : Int} {b : Nat} (hc : Cov f i lo (F0 ++ [(l, h, b)])) (hb : f (i + 1) = b) : Cov f (i + 1) lo (F0 ++ [(l, i + 1, b)]) := by
  induction F0 generalizing lo with
  | nil =>
    cases hc with
    | cons a1 a2 a3 a4 =>
      have e := a4.low.2 rfl
      exact .cons (by omega) (Int.le_refl _) (fun u x y => by
          by_cases hu : u ≤ i
          · exact a3 u x (by omega)
          · rw [show u = i + 1 by omega]; exact hb) .nil
  | cons p F0 ih =>
    cases hc with
    | cons a1 a2 a3 a4 => exact .cons a1 (by omega) a3 (ih a4)
theorem AdjNe.snoc : ∀ {F : List (Int × Int × Nat)} {p : Int × Int × Nat}, AdjNe F → (∀ F0 q, F = F0 ++ [q] → q.2.2 ≠ p.2.2) → AdjNe (F ++ [p])
  | [], _, _, _ => trivial
  | [q], p, _, h => ⟨h [] q rfl, trivial⟩
  | q :: r :: F, p, a, h => ⟨a.1, AdjNe.snoc a.2 fun F0 x e => h (q :: F0) x (by rw [e]; rfl)⟩
theorem AdjNe.swap : ∀ {F0 : List (Int × Int × Nat)} {p q : Int × Int × Nat}, AdjNe (F0 ++ [p]) → q.2.2 = p.2.2 → AdjNe (F0 ++ [q])
  | [], _, _, _, _ => trivial
  | [x], p, q, h, e => ⟨by rw [e]; exact h.1, trivial⟩
  | x :: y :: F, p, q, h, e => ⟨h.1, AdjNe.swap (F0 := y :: F) h.2 e⟩
/-- a pair (word, start) -/
def PvAt (H : Hp) (a : Addr) (p : Int × Nat) : Prop := H a = some (.tup [.int p.1, .int (p.2 : Int)])
theorem PvAt.same {H H' : Hp} (k : Same H H') : ∀ a p, PvAt H a p → PvAt H' a p := fun _ _ h => k _ _ h
theorem PvAt.lst {H : Hp} {l : Addr} {ys : List V} {o : HO} (hl : H l = some (.lst ys)) : ∀ a p, PvAt H a p → PvAt (upd H l o) a p := fun _ _ h => tup_stay hl h
def prF (f : Int → Nat) (k : Nat) : List (Int × Nat) := (List.range k).map fun i : Nat => ((1 : Int) + (i : Int), f (1 + (i : Int)))
theorem prF_at {f : Int → Nat} {k i : Nat} {p : Int × Nat} (h : (prF f k)[i]? = some p) : i < k ∧ p = ((1 : Int) + (i : Int), f (1 + (i : Int))) := by
  unfold prF at h
  rw [List.getElem?_map] at h
  obtain ⟨j, hj, rfl⟩ := Option.map_eq_some_iff.mp h
  obtain ⟨h1, h2⟩ := List.getElem?_eq_some_iff.mp hj
  rw [List.length_range] at h1
  rw [List.getElem_range] at h2
  subst h2
  exact ⟨h1, rfl⟩
theorem can_trs : ∀ F : List (Int × Int × Nat), PyData.canLayAll0 (F.map trD) = true ∧ PyData.depthAll (F.map trD) ≤ 1
  | [] => ⟨rfl, Nat.zero_le _⟩
  | p :: F => by
    obtain ⟨a, b⟩ := can_trs F
    simp only [List.map_cons, PyData.canLayAll0, PyData.depthAll, trD, PyData.canLay0, PyData.depth]
    refine ⟨by rw [a]; rfl, by omega⟩
theorem shaped_trs (F : List (Int × Int × Nat)) : SeqAt.shaped (.list (F.map trD)) = true := by
  obtain ⟨a, b⟩ := can_trs F
  unfold SeqAt.shaped
  simp only [PyData.canLay0, PyData.depth, a]
  simp
  omega
theorem eqv_trnil (F : List (Int × Int × Nat)) : PyData.eqv (.list (F.map trD)) (.list []) = decide (F = []) := by
  cases F with
  | nil => simp [PyData.eqv, PyData.eqvAll]
  | cons p F => simp [PyData.eqv, PyData.eqvAll]
def spStretched : Sp := fun vs H Q _ => ∃ (l : Addr) (rs : List V) (f : Int → Nat) (k : Nat), vs = [.ref l] ∧ H l = some (.lst rs) ∧ AllAt (PvAt H) rs (prF f k) ∧ k ≤ 1000 ∧
  ∀ H' r rs' R, Same H H' → H' r = some (.tup rs') → AllAt (TrAt H') rs' R → Cov f k 1 R → AdjNe R → Q (.ref r) H'
theorem prF_succ (f : Int → Nat) (k : Nat) : prF f (k + 1) = prF f k ++ [((1 : Int) + (k : Int), f (1 + (k : Int)))] := by
  unfold prF
  rw [List.range_succ, List.map_append]
  rfl
theorem pv_push {H0 G G2 : Hp} {D t : Addr} {rs : List V} {f : Int → Nat} {i : Nat} (s0 : Same H0 G) (hD : H0 D = none) (eD : G D = some (.lst rs)) (hA : AllAt (PvAt G) rs (prF f i)) (s2 : Same G G2) (ht : G2 t = none) :
    upd G2 t (.tup [.int (1 + (i : Int)), natV (f (1 + (i : Int)))]) D = some (.lst rs) ∧ Same H0 (upd (upd G2 t (.tup [.int (1 + (i : Int)), natV (f (1 + (i : Int)))])) D (.lst (rs ++ [.ref t]))) ∧
      AllAt (PvAt (upd (upd G2 t (.tup [.int (1 + (i : Int)), natV (f (1 + (i : Int)))])) D (.lst (rs ++ [.ref t])))) (rs ++ [.ref t]) (prF f (i + 1)) := by
  have n2 := Same.new (o := .tup [.int (1 + (i : Int)), natV (f (1 + (i : Int)))]) ht
  have eD2 := n2 _ _ (s2 _ _ eD)
  refine ⟨eD2, Same.set (same_tr s0 (same_tr s2 n2)) hD, ?_⟩
  rw [prF_succ]
  exact ((hA.mono (PvAt.same (same_tr s2 n2))).mono (PvAt.lst eD2)).push (tup_stay eD2 upd_same)
theorem sm_trs {m : Int} {N : Nat} {R : List (Int × Int × Nat)} (hm : m ≤ 1000000000) (hN : N ≤ 1000) (hl : R.length ≤ N + 1) (h : ∀ p ∈ R, 1 ≤ p.1 ∧ p.1 ≤ p.2.1 ∧ p.2.1 ≤ m ∧ p.2.2 ≤ N) : Sm ((N + 1) * 325 + 3) 2 (.tuple (R.map trD)) :=
  Sm.tuple (b := 323) (k := 1) (fun d hd => by
    obtain ⟨p, hp, rfl⟩ := List.mem_map.mp hd
    obtain ⟨a, b, c, e⟩ := h p hp
    exact (SmA.cons (Sm.int (i := p.1) (by omega) (by omega)) (SmA.cons (Sm.int (i := p.2.1) (by omega) (by omega)) (SmA.cons (Sm.int (i := (p.2.2 : Int)) (by omega) (by omega)) SmA.nil))).tuple.mono (by decide) (by decide)) (by rw [List.length_map]; exact hl)
theorem RangesFor.sm {m : Int} {f : Int → Nat} {R : List (Int × Int × Nat)} {N : Nat} (h : RangesFor m f R) (hm : m ≤ 1000000000) (hN : N ≤ 1000) (f_le : ∀ u, 1 ≤ u → u ≤ m → f u ≤ N) : Sm ((N + 1) * 325 + 3) 2 (.tuple (R.map trD)) :=
  sm_trs hm hN (h.len f_le) fun p hp => by
    obtain ⟨a1, a2, a3, a4⟩ := h.cov.mem p hp
    refine ⟨a1, a2, a3, ?_⟩
    have := f_le p.1 a1 (by omega)
    rwa [a4 p.1 (Int.le_refl _) a2] at this
theorem Cov.congr {f g : Int → Nat} {m lo : Int} {R : List (Int × Int × Nat)} (h : Cov f m lo R) (e : ∀ u, lo ≤ u → u ≤ m → f u = g u) : Cov g m lo R := by
  induction h with
  | nil => exact .nil
  | cons a1 a2 a3 _ ih => exact .cons a1 a2 (fun u x y => by rw [← e u x (by omega)]; exact a3 u x y) (ih fun u x y => e u (by omega) y)
theorem ixN_last (n : Nat) : ixN (n + [V.non].length) (-1) = some n := by
  unfold ixN
  show (if 0 ≤ (-1 : Int) then _ else _) = _
  rw [if_neg (by decide)]
  have h1 : ((n + [V.non].length : Nat) : Int) = (n : Int) + 1 := by simp
  rw [h1]
  have h2 : (-1 + ((n : Int) + 1)).toNat = n := by omega
  simp only [h2]
  rw [if_pos (by omega)]
end SL

set_option Elab.async false
set_option linter.all false
set_option maxRecDepth 100000
set_option maxHeartbeats 1000000
/-! Own layer 56: ranges over great widths. -/
namespace SL
open PySem PySem.Spec PyProof.Rows L2
def spGreatR (K : PySem.W.Frag) : Sp := fun vs H Q _ => ∃ (p : Addr) (m : Int) (n : Nat), vs = [.ref p, .int m] ∧ PotAt H p n ∧ n < 900000 ∧ 1 ≤ m ∧ m ≤ 1000000000 ∧
  ∀ H' t (ns : List Int), Kp p H H' → PotAt H' p (n + 100) → H' t = some (.tup (ns.map V.int)) → ns.length ≤ 20 → (∀ x ∈ ns, 1 ≤ x ∧ x ≤ m) → Q (.ref t) H'
def spRowR (K : PySem.W.Frag) : Sp := fun vs H Q _ => ∃ (p t r tl : Addr) (m : Int) (n : Nat) (ns fs : List Int) (rs : List V) (R : List (Int × Int × Nat)) (f : Int → Nat), vs = [.ref p, .int m, .ref t, .ref r, .ref tl] ∧ PotAt H p n ∧ n < 900000 ∧ SqT K H t (ns.map V.int) ∧ 1 ≤ m ∧ m ≤ 1000000000 ∧
  SqT K H tl (fs.map V.int) ∧ fs.length ≤ 1 ∧ ns.length ≤ 900 ∧ (∀ u, 1 ≤ u → u ≤ m → Fit m (ns ++ (u :: fs)) ∧ startF ns (u :: fs) m = f u) ∧ H r = some (.tup rs) ∧ AllAt (TrAt H) rs R ∧ RangesFor m f R ∧ R.length ≤ 100 ∧
  ∀ H', Kp p H H' → PotAt H' p (n + 100) → Q (.bl true) H'
theorem Kp.tups {p a : Addr} {H H' : Hp} {n : Nat} {xs : List V} (k : Kp p H H') (hp : PotAt H p n) (h : H a = some (.tup xs)) : H' a = some (.tup xs) := by
  refine k _ _ (fun e => ?_) h
  obtain ⟨_, _, _, hp, _⟩ := hp
  rw [e, hp] at h
  cases h
theorem Kp.trs {p : Addr} {H H' : Hp} {n : Nat} {rs : List V} {R : List (Int × Int × Nat)} (k : Kp p H H') (hp : PotAt H p n) (h : AllAt (TrAt H) rs R) : AllAt (TrAt H') rs R := h.mono fun _ _ e => k.tups hp e
def lowR : Int → List (Int × Int × Nat) → Int
  | lo, [] => lo
  | _, p :: R => lowR (p.2.1 + 1) R
theorem Cov.lowR_at {f : Int → Nat} {m lo : Int} {R : List (Int × Int × Nat)} (h : Cov f m lo R) : ∀ {i : Nat} {p : Int × Int × Nat}, R[i]? = some p → p.1 = lowR lo (R.take i) ∧ lowR lo (R.take (i + 1)) = p.2.1 + 1 := by
  induction h with
  | nil => intro i p e; simp at e
  | @cons lo hi b R a1 a2 a3 a4 ih =>
    intro i p e
    cases i with
    | zero =>
      obtain rfl := Option.some.inj e
      exact ⟨rfl, rfl⟩
    | succ i =>
      exact ih (i := i) (p := p) e
theorem Cov.lowR_all {f : Int → Nat} {m lo : Int} {R : List (Int × Int × Nat)} (h : Cov f m lo R) : lowR lo R = m + 1 := by
  induction h with
  | nil => rfl
  | cons _ _ _ _ ih => exact ih
theorem StartsL.bounds {ns : List Int} {m : Int} {L : List Nat} (hF : Fit m ns) (h : StartsL ns m L) : (∀ e ∈ L, e ≤ ns.length) ∧ L.length ≤ ns.length + 1 := by
  have h1 : ∀ e ∈ L, e ≤ ns.length := fun e he => by
    obtain ⟨u, a, b, c | c⟩ := (h.mem e).mp he
    · rw [c]; exact startC_le hF a b
    · rw [c]; exact startO_le hF a b
  refine ⟨h1, ?_⟩
  rcases pw_len L 0 ns.length h.pw (fun x hx => ⟨Nat.zero_le _, h1 x hx⟩) with a | a
  · omega
  · rw [a]; exact Nat.zero_le _
theorem union_starts {ns : List Int} {m : Int} {RC RO : List (Int × Int × Nat)} {L : List Int} (hC : RangesFor m (startC ns m) RC) (hO : RangesFor m (startO ns m) RO) (hpw : L.Pairwise (· < ·)) (hmem : ∀ k, k ∈ L ↔ k ∈ (RC ++ RO).map fun p => (p.2.2 : Int)) :
    ∃ L', L = L'.map (fun x : Nat => (x : Int)) ∧ StartsL ns m L' := by
  have hall : ∀ k, k ∈ L ↔ ∃ b : Nat, k = (b : Int) ∧ StartAt ns m b := fun k => by
    rw [hmem, List.mem_map]
    constructor
    · rintro ⟨r, hr2, rfl⟩
      refine ⟨r.2.2, rfl, ?_⟩
      rcases List.mem_append.mp hr2 with h | h
      · obtain ⟨a1, a2, a3, a4⟩ := hC.cov.mem r h
        exact ⟨r.1, a1, by omega, .inl (a4 r.1 (Int.le_refl _) a2).symm⟩
      · obtain ⟨a1, a2, a3, a4⟩ := hO.cov.mem r h
        exact ⟨r.1, a1, by omega, .inr (a4 r.1 (Int.le_refl _) a2).symm⟩
    · rintro ⟨b, rfl, u, h1, h2, h | h⟩
      · obtain ⟨r, hr2, _, _, h3⟩ := hC.cov.at_ u h1 h2
        exact ⟨r, List.mem_append_left _ hr2, by rw [h, h3]⟩
      · obtain ⟨r, hr2, _, _, h3⟩ := hO.cov.at_ u h1 h2
        exact ⟨r, List.mem_append_right _ hr2, by rw [h, h3]⟩
  refine ⟨L.map Int.toNat, ?_, ?_, fun b => ?_⟩
  · rw [List.map_map]
    conv => lhs; rw [← List.map_id L]
    refine List.map_congr_left fun k hk => ?_
    obtain ⟨b, rfl, _⟩ := (hall k).mp hk
    rfl
  · rw [List.pairwise_map]
    refine (List.Pairwise.and_mem.mp hpw).imp fun {x y} h => ?_
    obtain ⟨hx, hy, h⟩ := h
    obtain ⟨b, rfl, _⟩ := (hall x).mp hx
    obtain ⟨c2, rfl, _⟩ := (hall y).mp hy
    show b < c2
    omega
  · rw [List.mem_map]
    constructor
    · rintro ⟨k, hk, rfl⟩
      obtain ⟨b, rfl, h⟩ := (hall k).mp hk
      exact h
    · intro h
      exact ⟨(b : Int), (hall _).mpr ⟨b, rfl, h⟩, rfl⟩
end SL

set_option Elab.async false
set_option linter.all false
set_option maxRecDepth 100000
set_option maxHeartbeats 1000000
/-! Own layer 57: ranges of long texts. -/
namespace SL
open PySem PySem.Spec PyProof.Rows L2
def spOfS (K : PySem.W.Frag) : Sp := fun vs H Q _ => ∃ (p l : Addr) (xs : List V) (n : Nat), vs = [.ref p, .ref l] ∧ PotAt H p n ∧ n < 1000000 ∧ ((SqL K H l xs ∧ l ≠ p) ∨ SqT K H l xs) ∧ 0 < xs.length ∧ xs.length < 1000000 ∧
  ∀ H' (i : Nat) x, Kp p H H' → PotAt H' p (n + 1) → xs[i]? = some x → Q x H'
def spLongR (K : PySem.W.Frag) : Sp := fun vs H Q _ => ∃ (p : Addr) (m : Int) (n : Nat), vs = [.ref p, .int m] ∧ PotAt H p n ∧ n < 900000 ∧ 1 ≤ m ∧ m ≤ 1000000000 ∧
  ∀ H' t (ns : List Int), Kp p H H' → PotAt H' p (n + 320) → SqT K H' t (ns.map V.int) → ns.length ≤ 300 → (∀ x ∈ ns, 1 ≤ x ∧ x ≤ m) → Q (.ref t) H'
def spRowL (K : PySem.W.Frag) : Sp := fun vs H Q _ => ∃ (p t r tl : Addr) (m : Int) (n : Nat) (ns fs : List Int) (rs : List V) (R : List (Int × Int × Nat)) (f : Int → Nat), vs = [.ref p, .int m, .ref t, .ref r, .ref tl] ∧ PotAt H p n ∧ n < 900000 ∧ SqT K H t (ns.map V.int) ∧ 1 ≤ m ∧ m ≤ 1000000000 ∧
  SqT K H tl (fs.map V.int) ∧ fs.length ≤ 1 ∧ ns.length ≤ 900 ∧ (∀ u, 1 ≤ u → u ≤ m → Fit m (ns ++ (u :: fs)) ∧ startF ns (u :: fs) m = f u) ∧ H r = some (.tup rs) ∧ AllAt (TrAt H) rs R ∧ RangesFor m f R ∧ R.length ≤ 400 ∧
  ∀ H', Kp p H H' → PotAt H' p (n + 100) → Q (.bl true) H'
/-- a loop over zip of two tuples, the second the shorter -/
theorem for_zipM {K : PySem.W.Frag} {a b : Addr} {xs ys : List V} {g : TG} {tb : TS} {D : Ends} {σ : L2.St} {H : Hp} (hl : ys.length ≤ xs.length) (Pv : Nat → L2.St → Hp → Prop) (h0 : Pv 0 σ H) (hq : ∀ i σ H, Pv i σ H → SqT K H a xs ∧ SqT K H b ys)
    (hs : ∀ (i : Nat) (x y : V) (T : Addr) (σ : L2.St) (H : Hp), xs[i]? = some x → ys[i]? = some y → Pv i σ H → H T = none → g (.ref T) σ (upd H T (.tup [x, y])) fun σ2 H2 => tb { D with nx := Pv (i + 1), ct := Pv (i + 1), bk := D.nx } σ2 H2) (hd : ∀ σ H, Pv ys.length σ H → D.nx σ H) :
    ∃ W : Nat → Nat → L2.St → Hp → Prop, (∃ m, W 0 m σ H) ∧ ∀ i m σ H, W i m σ H →
      ((RZ.ItzT K a b).stop i H ∧ D.nx σ H) ∨ ((RZ.ItzT K a b).go i H ∧ ∃ N : L2.St → Hp → Prop, (∀ σ' H', N σ' H' → ∃ m', m' < m ∧ W (i + 1) m' σ' H') ∧ ∀ v H', (RZ.ItzT K a b).yld i H v H' → g v σ H' fun σ2 H2 => tb { D with nx := N, ct := N, bk := D.nx } σ2 H2) := by
  refine ⟨fun i m σ H => m = ys.length - i ∧ i ≤ ys.length ∧ Pv i σ H, ⟨ys.length, rfl, Nat.zero_le _, h0⟩, ?_⟩
  rintro i m σ H ⟨rfl, hi, p⟩
  obtain ⟨qx, qy⟩ := hq i σ H p
  by_cases hlt : i < ys.length
  · have hlt2 : i < xs.length := by omega
    have hx : xs[i]? = some xs[i] := List.getElem?_eq_getElem hlt2
    have hy : ys[i]? = some ys[i] := List.getElem?_eq_getElem hlt
    refine .inr ⟨⟨xs, ys, _, _, qx, qy, hx, hy⟩, Pv (i + 1), fun σ' H' p' => ⟨ys.length - (i + 1), by omega, rfl, hlt, p'⟩, fun v H' y => ?_⟩
    obtain ⟨T, x', y', rfl, hT, rfl, f1, f2⟩ := y
    exact hs i x' y' T σ H (f1 xs qx) (f2 ys qy) p hT
  · have e : i = ys.length := by omega
    subst e
    exact .inl ⟨⟨xs, ys, qx, qy, Or.inr (Nat.le_refl _)⟩, hd σ H p⟩
theorem Cov.fst {f : Int → Nat} {m lo : Int} {R : List (Int × Int × Nat)} (h : Cov f m lo R) (hm : lo ≤ m) : ∃ p R', R = p :: R' ∧ p.1 = lo := by
  cases h with
  | nil => omega
  | @cons _ hi b R' _ _ _ _ => exact ⟨_, R', rfl, rfl⟩
theorem Cov.lst {f : Int → Nat} {m lo : Int} {R : List (Int × Int × Nat)} (h : Cov f m lo R) : ∀ {R0 : List (Int × Int × Nat)} {p : Int × Int × Nat}, R = R0 ++ [p] → p.2.1 = m := by
  induction h with
  | nil => intro R0 p e; simp at e
  | @cons lo hi b R' _ _ _ a4 ih =>
    intro R0 p e
    cases R0 with
    | nil =>
      injection e with e1 e2
      subst e2
      rw [← e1]
      have := a4.low.2 rfl
      show hi = m
      omega
    | cons x R0 =>
      injection e with e1 e2
      exact ih e2
theorem Cov.next {f : Int → Nat} {m lo : Int} {R : List (Int × Int × Nat)} (h : Cov f m lo R) {i : Nat} {p q : Int × Int × Nat} (hp : R[i]? = some p) (hq : R[i + 1]? = some q) : q.1 = p.2.1 + 1 := by
  have h1 := (h.lowR_at hp).2
  have h2 := (h.lowR_at hq).1
  omega
theorem flat_mem {ns : List Int} {k j : Nat} : ∀ x ∈ ((List.replicate k ns).flatten).take j, x ∈ ns := fun x hx => by
  have := List.mem_of_mem_take hx
  rw [List.mem_flatten] at this
  obtain ⟨l, hl, hx⟩ := this
  rwa [List.eq_of_mem_replicate hl] at hx
theorem rep_map (ns : List Int) : ∀ k : Nat, (List.replicate k (ns.map V.int)).flatten = ((List.replicate k ns).flatten).map V.int
  | 0 => rfl
  | k + 1 => by rw [List.replicate_succ, List.flatten_cons, rep_map ns k, List.replicate_succ, List.flatten_cons, List.map_append]
end SL

set_option Elab.async false
set_option linter.all false
set_option maxRecDepth 100000
set_option maxHeartbeats 1000000
/-! Own layer 58: sorted of a dict whose keys are numbers. -/
namespace SL
open PySem PySem.Spec PyProof.Rows L2
section
variable {prog : Program} {w : World} {A : Around} {E : Value → Shared → Prop} {s : Shared} {T : String} {r d : Addr} {n : Nat} {Pk : Nat → Value → Prop} {OK : Heap → Prop}
theorem collect_kdl {Q : List Value → Shared → Prop} (K : PySem.W.KdlSrc prog w T r d n Pk OK) (hh : A.handled = none) (hok : OK s.heap) (hn : n ≤ sizeLine)
    (hQ : ∀ (h' : Heap) (tk : Nat) (acc : Array Value), (∀ b o, s.heap.get? b = some o → h'.get? b = some o) → s.heap.objs.size ≤ h'.objs.size → ItemsOf Pk acc n → Q acc.toList { s with heap := h', toks := tk }) :
    wpAny (model prog w) A (collect (.ref r)) Q E s := by
  have hlt := K.there _ hok
  unfold collect
  refine wpAny_bind (wpAny_runValue (codeAny_builtin F.entry_proto_collect ?_))
  rw [Around.under_plainId F.plain_proto_collect _]
  show wpAny _ A.in1 (newList [] >>= fun l => again (.builtin "list.__iadd__" ⟨[l, .ref r], []⟩)) _ _ s
  refine wpAny_bind (wpAny_newObj_type ?_)
  refine wpAny_pure ⟨plainId_quiet F.plain_list_iadd _, codeAny_builtin F.entry_list_iadd ?_⟩
  rw [Around.under_plainId F.plain_list_iadd _]
  show wpAny _ A.in1 (Builtin.List.listExtendWith (.ref s.heap.objs.size) (.ref r) (.ref s.heap.objs.size)) _ _ _
  have hS : (s.heap.push { cls := .type "list", data := .seq ([] : List Value).toArray }).get? s.heap.objs.size = some { cls := .type "list", data := .seq #[] 0 } := Heap.get?_push_size _ rfl
  refine wpAny_mono (PySem.W.kdl_extend (A := A) (R := fun rr s' => rr = .ok (.ret (.ref s.heap.objs.size)) ∧ ∃ (h' : Heap) (tk : Nat) (acc : Array Value) (c' : Nat), s' = { s with heap := h', toks := tk } ∧
      (∀ b o, s.heap.get? b = some o → h'.get? b = some o) ∧ h'.get? s.heap.objs.size = some { cls := .type "list", dict := none, data := .seq acc c', slots := #[] } ∧ ItemsOf Pk acc n)
    (s := { s with heap := s.heap.push { cls := .type "list", data := .seq ([] : List Value).toArray } }) K hh (K.keep _ _ hok fun b _ o e => Heap.get?_push_of_some _ e) _ (Nat.ne_of_gt hlt.1) (Nat.ne_of_gt hlt.2) _ 0 hS
    (fun h' tk acc c' hk e hi => ⟨rfl, h', tk, acc, c', rfl, fun b o q => hk b o (Nat.ne_of_lt (Heap.lt_size q)) (Heap.get?_push_of_some _ q), e, hi⟩) hn) (fun fin s' h => ?_) (fun e s' h => ?_)
  · cases fin with
    | done f =>
      obtain ⟨e, h', tk, acc, c', rfl, hk, hS', hi⟩ := h
      cases e
      show wpAny _ A (PySem.load s.heap.objs.size >>= _) _ _ _
      exact wpAny_bind (wpAny_load hS' (wpAny_pure (hQ h' tk acc hk (Nat.le_of_lt (Heap.lt_size hS')) hi)))
    | again c' =>
      refine ⟨h.1, codeAny_mono h.2 fun rr s'' hr' => ?_⟩
      obtain ⟨rfl, h', tk, acc, c', rfl, hk, hS', hi⟩ := hr'
      show wpAny _ A (PySem.load s.heap.objs.size >>= _) _ _ _
      exact wpAny_bind (wpAny_load hS' (wpAny_pure (hQ h' tk acc hk (Nat.le_of_lt (Heap.lt_size hS')) hi)))
  · exact absurd h.1 (by simp)
end
def rSortDk : List V → Hp → VK → Prop := fun vs H Q => ∃ (a : Addr) (kvs : List (Key × V)) (ns : List Int), vs = [V.ref a] ∧ H a = some (.dK kvs) ∧ kvs.map (·.1) = ns.map Sum.inl ∧
  ∀ (ns' : List Int) (p : Addr), ns'.Perm ns → ns'.Pairwise (· ≤ ·) → H p = none → Q (.ref p) (upd H p (.lst (ns'.map V.int)))
section
variable {X : Cx}
theorem cr_sortDk (hc : X.calm = true) : CallR X (.builtin "sorted") rSortDk := by
  intro pins s σ H xs us Q I r h
  obtain ⟨a, kvs, ns, rfl, ha, hns, q⟩ := h
  rw [Vals.ref1 r]
  have hh := I.ok.hd hc
  obtain ⟨z, lo, vs0, rk, hd⟩ := (show ObjOk X.prog X.w H s.heap a (.dK kvs) from I.hok a _ ha)
  obtain ⟨ep, hat⟩ := hd.dictAt
  have hl : kvs.length = vs0.length := Paired.length rk
  refine Calls.call_function_entry kind_sorted plain_sorted entry_sorted (args_sorted1 _) ?_
  unfold Builtin.«sorted»
  refine wpAny_bind (m := checkCount "sorted" 1 1 _) (wpAny_pure ?_)
  refine wpAny_bind (collect_kdl (A := X.A.in1) (PySem.W.kdl_dict (knd := mixKind X.prog X.w) (kvs := vs0) (ep := ep) lo) hh hat (by rw [← hl]; exact z) fun h' tk acc hkeep hz hacc => ?_)
  have el : acc.toList.length = acc.size := by simp
  have hln : kvs.length = ns.length := by
    have := congrArg List.length hns
    rwa [List.length_map, List.length_map] at this
  have rv : Vals (ns.map V.int) acc.toList := by
    refine vals_of_at (by rw [List.length_map, el, hacc.1, ← hl, hln]) fun j x w h1 h2 => ?_
    obtain ⟨k, y, hky, hi⟩ := hacc.2 j w (by rw [← Array.getElem?_toList]; exact h2)
    have e1 : (kvs.map (·.1))[j]? = some k := by
      rw [KV.keys rk, List.getElem?_map, hky] <;> rfl
    rw [hns, List.getElem?_map] at e1
    obtain ⟨i, hi2, rfl⟩ := Option.map_eq_some_iff.mp e1
    rw [List.getElem?_map, hi2] at h1
    cases h1
    exact keyIs_rel (k := Sum.inl i) hi
  have hi := rv.ints
  have hvl : acc.toList.length ≤ sizeLine := by
    rw [el, hacc.1, ← hl]
    exact z
  generalize acc.toList = vs at rv hi hvl
  refine wpAny_bind (wpAny_newList ?_ hvl)
  have hoL : (h'.push (seqObj "list" vs.toArray 0)).get? h'.objs.size = some (seqObj "list" vs.toArray 0) := Heap.get?_push_size _ rfl
  refine wpAny_bind (wpAny_holding (wpAny_call_entry slot_list_sort ⟨_, hoL, rfl⟩ entry_list_sort
    (SrtO.list_sort_ord SrtO.swo_int (s := { s with heap := h'.push (seqObj "list" vs.toArray 0), toks := tk }) hoL hvl (fun h2 => SrtO.ints_sortable hi h2) fun out h1 h2 => ⟨_, rfl, ?_⟩) (args_list_sort _)))
  obtain ⟨k1', k2, k3⟩ := SrtO.ints_out hi h1 h2
  obtain ⟨ep2, he'⟩ := sortedHeap_at (vs := vs) (out := out.toArray) hoL
  have keep : ∀ b u, s.heap.get? b = some u → (sortedHeap (h'.push (seqObj "list" vs.toArray 0)) h'.objs.size vs out.toArray).get? b = some u := fun b u e => by
    have q := hkeep b u e
    have hlt := Heap.lt_size q
    rw [sortedHeap_old (Nat.ne_of_lt hlt) (by rw [size_push']; exact Nat.lt_succ_of_lt hlt)]
    exact Heap.get?_push_of_some _ q
  have hnf : H h'.objs.size = none := I.hok.fresh hz
  have hol : (out.map SrtO.iv).length = kvs.length := by rw [k2.length_eq, hln]
  have J : Inv X pins σ (upd H h'.objs.size (.lst ((out.map SrtO.iv).map V.int))) { s with heap := sortedHeap (h'.push (seqObj "list" vs.toArray 0)) h'.objs.size vs out.toArray, toks := tk } :=
    I.laid (t' := tk) keep hz ⟨by rw [List.length_map, hol]; exact z, out, ep2, vals_of_ints k1', he'⟩
  refine wpAny_pure ⟨_, rfl, ?_⟩
  exact ⟨.ref _, _, J, rfl, q _ _ k2 k3 hnf⟩
end
end SL

set_option Elab.async false
set_option linter.all false
set_option maxRecDepth 100000
set_option maxHeartbeats 1000000
/-! Own layer 59: all futures of few words. -/
namespace SL
open PySem PySem.Spec PyProof.Rows L2
/-- one word more, each -/
def extF (m : Int) (f : List Int) (k : Nat) : List (List Int) := (List.range k).map fun i : Nat => f ++ [(1 : Int) + (i : Int)]
def lvlF (m : Int) : Nat → List (List Int)
  | 0 => [[]]
  | k + 1 => (lvlF m k).flatMap fun f => extF m f m.toNat
def allF (m : Int) : Nat → List (List Int)
  | 0 => [[]]
  | k + 1 => allF m k ++ lvlF m (k + 1)
def spFut (K : PySem.W.Frag) : Sp := fun vs H Q _ => ∃ (m : Int), vs = [.int m, .int 3] ∧ 1 ≤ m ∧ m ≤ 5 ∧
  ∀ H' l rs, Same H H' → H' l = some (.lst rs) → AllAt (RwAt K H') rs (allF m 3) → Q (.ref l) H'
theorem extF_succ {m : Int} {f : List Int} {k : Nat} : extF m f (k + 1) = extF m f k ++ [f ++ [(1 : Int) + (k : Int)]] := by
  unfold extF
  rw [List.range_succ, List.map_append]
  rfl
theorem extF_mem {m : Int} {f g : List Int} (h : g ∈ extF m f m.toNat) : ∃ u : Int, 1 ≤ u ∧ u ≤ m ∧ g = f ++ [u] := by
  obtain ⟨i, hi, rfl⟩ := List.mem_map.mp h
  have := List.mem_range.mp hi
  exact ⟨1 + (i : Int), by omega, by omega, rfl⟩
theorem extF_in {m u : Int} {f : List Int} (h1 : 1 ≤ u) (h2 : u ≤ m) : f ++ [u] ∈ extF m f m.toNat :=
  List.mem_map.mpr ⟨(u - 1).toNat, List.mem_range.mpr (by omega), by rw [show (1 : Int) + (((u - 1).toNat : Nat) : Int) = u by omega]⟩
theorem lvlF_mem {m : Int} : ∀ {k : Nat} {f : List Int}, f ∈ lvlF m k → f.length = k ∧ ∀ x ∈ f, 1 ≤ x ∧ x ≤ m
  | 0, f, h => by
    obtain rfl := List.mem_singleton.mp h
    exact ⟨rfl, fun _ z => nomatch z⟩
  | k + 1, f, h => by
    obtain ⟨g, hg, hf⟩ := List.mem_flatMap.mp h
    obtain ⟨u, h1, h2, rfl⟩ := extF_mem hf
    obtain ⟨a, b⟩ := lvlF_mem hg
    refine ⟨by rw [List.length_append, a]; rfl, fun x hx => ?_⟩
    rcases List.mem_append.mp hx with hx | hx
    · exact b x hx
    · obtain rfl := List.mem_singleton.mp hx
      exact ⟨h1, h2⟩
theorem lvlF_in {m u : Int} {k : Nat} {f : List Int} (hf : f ∈ lvlF m k) (h1 : 1 ≤ u) (h2 : u ≤ m) : f ++ [u] ∈ lvlF m (k + 1) := List.mem_flatMap.mpr ⟨f, hf, extF_in h1 h2⟩
theorem lvlF_len {m : Int} (hm : m ≤ 5) : ∀ k : Nat, (lvlF m k).length ≤ 5 ^ k
  | 0 => Nat.le_refl _
  | k + 1 => by
    have ih := lvlF_len hm k
    have e : ∀ L : List (List Int), (L.flatMap fun f => extF m f m.toNat).length ≤ L.length * 5 := fun L => by
      induction L with
      | nil => exact Nat.le_refl _
      | cons f L ihL =>
        rw [List.flatMap_cons, List.length_append]
        have : (extF m f m.toNat).length ≤ 5 := by
          unfold extF
          rw [List.length_map, List.length_range]
          omega
        show _ ≤ (L.length + 1) * 5
        omega
    have := e (lvlF m k)
    show ((lvlF m k).flatMap _).length ≤ _
    rw [Nat.pow_succ]
    omega
theorem allF_len {m : Int} (hm : m ≤ 5) : ∀ k : Nat, (allF m k).length ≤ (k + 1) * 5 ^ k
  | 0 => Nat.le_refl _
  | k + 1 => by
    have ih := allF_len hm k
    have h2 := lvlF_len hm (k + 1)
    show (allF m k ++ lvlF m (k + 1)).length ≤ _
    rw [List.length_append]
    have e : (k + 1 + 1) * 5 ^ (k + 1) = (k + 1) * 5 ^ k * 5 + 5 ^ (k + 1) := by rw [Nat.succ_mul, Nat.pow_succ, Nat.mul_assoc]
    omega
theorem few_len {m : Int} (hm : m ≤ 5) {i : Nat} (hi : i < 3) : (allF m i).length ≤ 75 ∧ (lvlF m i).length ≤ 25 ∧ (lvlF m (i + 1)).length ≤ 125 := by
  have h1 := allF_len hm i
  have h2 := lvlF_len hm i
  have h3 := lvlF_len hm (i + 1)
  match i, hi with
  | 0, _ => exact ⟨Nat.le_trans h1 (by decide), Nat.le_trans h2 (by decide), Nat.le_trans h3 (by decide)⟩
  | 1, _ => exact ⟨Nat.le_trans h1 (by decide), Nat.le_trans h2 (by decide), Nat.le_trans h3 (by decide)⟩
  | 2, _ => exact ⟨Nat.le_trans h1 (by decide), Nat.le_trans h2 (by decide), Nat.le_trans h3 (by decide)⟩
theorem flat_len {m : Int} (hm : m ≤ 5) {L : List (List Int)} : (L.flatMap fun f => extF m f m.toNat).length ≤ L.length * 5 := by
  induction L with
  | nil => exact Nat.le_refl _
  | cons f L ihL =>
    rw [List.flatMap_cons, List.length_append]
    have : (extF m f m.toNat).length ≤ 5 := by
      unfold extF
      rw [List.length_map, List.length_range]
      omega
    show _ ≤ (L.length + 1) * 5
    omega
theorem allF_drop {m : Int} : (allF m 3).drop 1 = lvlF m 1 ++ lvlF m 2 ++ lvlF m 3 := rfl
theorem allF_mem {m : Int} {f : List Int} (h : f ∈ (allF m 3).drop 1) : f ≠ [] ∧ f.length ≤ 3 ∧ ∀ x ∈ f, 1 ≤ x ∧ x ≤ m := by
  rw [allF_drop] at h
  have key : ∀ k, 1 ≤ k → k ≤ 3 → f ∈ lvlF m k → f ≠ [] ∧ f.length ≤ 3 ∧ ∀ x ∈ f, 1 ≤ x ∧ x ≤ m := fun k h1 h2 hf => by
    obtain ⟨a, b⟩ := lvlF_mem hf
    refine ⟨fun e => ?_, by omega, b⟩
    rw [e] at a
    simp at a
    omega
  rcases List.mem_append.mp h with h | h
  · rcases List.mem_append.mp h with h | h
    · exact key 1 (by decide) (by decide) h
    · exact key 2 (by decide) (by decide) h
  · exact key 3 (by decide) (by decide) h
theorem allF_one {m u : Int} (h1 : 1 ≤ u) (h2 : u ≤ m) : [u] ∈ (allF m 3).drop 1 := by
  rw [allF_drop]
  exact List.mem_append_left _ (List.mem_append_left _ (lvlF_in (k := 0) (f := []) (List.mem_singleton.mpr rfl) h1 h2))
theorem allF_two {m u v : Int} (h1 : 1 ≤ u) (h2 : u ≤ m) (h3 : 1 ≤ v) (h4 : v ≤ m) : [u, v] ∈ (allF m 3).drop 1 := by
  rw [allF_drop]
  refine List.mem_append_left _ (List.mem_append_right _ ?_)
  exact lvlF_in (k := 1) (f := [u]) (lvlF_in (k := 0) (f := []) (List.mem_singleton.mpr rfl) h1 h2) h3 h4
end SL

set_option Elab.async false
set_option linter.all false
set_option maxRecDepth 100000
set_option maxHeartbeats 1000000
/-! Own layer 60: all starts, out of a dict's keys. -/
namespace SL
open PySem PySem.Spec PyProof.Rows L2
theorem Kp.dkT {K : PySem.W.Frag} {d a : Addr} {H H' : Hp} {kvs : List (Key × V)} {xs : List V} (k : Kp d H H') (hd : H d = some (.dK kvs)) (h : SqT K H a xs) : SqT K H' a xs := by
  rcases h with (h | ⟨o, h⟩) | h
  · exact .inl (.inl (k _ _ (fun e => by rw [e, hd] at h; cases h) h))
  · exact .inl (.inr ⟨o, k _ _ (fun e => by rw [e, hd] at h; cases h) h⟩)
  · exact .inr h
theorem putK_keys {kvs : List (Key × V)} {ks : List Int} {x : Int} {v : V} (h : kvs.map (·.1) = ks.map Sum.inl) : (putK kvs (Sum.inl x) v).map (·.1) = (if x ∈ ks then ks else ks ++ [x]).map Sum.inl := by
  have hany : (kvs.any fun kv => decide (kv.1 = (Sum.inl x : Key))) = true ↔ x ∈ ks := by
    rw [List.any_eq_true]
    constructor
    · rintro ⟨kv, hkv, e⟩
      have e := of_decide_eq_true e
      have : (Sum.inl x : Key) ∈ ks.map Sum.inl := by rw [← h, ← e]; exact List.mem_map.mpr ⟨kv, hkv, rfl⟩
      obtain ⟨y, hy, e2⟩ := List.mem_map.mp this
      injection e2 with e2
      rwa [← e2]
    · intro hx
      have : (Sum.inl x : Key) ∈ kvs.map (·.1) := by rw [h]; exact List.mem_map.mpr ⟨x, hx, rfl⟩
      obtain ⟨kv, hkv, e⟩ := List.mem_map.mp this
      exact ⟨kv, hkv, decide_eq_true e⟩
  unfold putK
  by_cases hx : x ∈ ks
  · rw [if_pos (hany.mpr hx), if_pos hx, List.map_map, ← h]
    refine List.map_congr_left fun kv hkv => ?_
    show (if kv.1 = (Sum.inl x : Key) then (kv.1, v) else kv).1 = kv.1
    split <;> rfl
  · rw [if_neg (fun z => hx (hany.mp z)), if_neg hx, List.map_append, List.map_append, h]
    rfl
theorem startF_at {ns fs : List Int} {m : Int} (hF : Fit m (ns ++ fs)) (hfs : fs ≠ []) : StartAt ns m (startF ns fs m) := by
  obtain ⟨s, hs, e⟩ := fut_any hF hfs
  have hFn := fit_left hF
  have hle : s ≤ ns.length := by
    obtain ⟨u, a, b, c | c⟩ := hs
    · rw [c]; exact startC_le hFn a b
    · rw [c]; exact startO_le hFn a b
  have : startF ns fs m = s := by
    unfold startF
    rw [e, lastN_path hFn hle]
  rw [this]
  exact hs
theorem sorted_starts {ns ks ks' : List Int} {m : Int} (hF : Fit m ns) (hm : 1 ≤ m) (hp : ks'.Perm ks) (hw : ks'.Pairwise (· ≤ ·)) (hn : ks.Nodup) (hk : ∀ k, k ∈ ks ↔ ∃ f ∈ (allF m 3).drop 1, k = (startF ns f m : Int)) :
    ∃ L', ks' = L'.map (fun x : Nat => (x : Int)) ∧ StartsL ns m L' := by
  have hpw : ks'.Pairwise (· < ·) := pair_lt_of hw (hp.nodup_iff.mpr hn)
  have hfit : ∀ f, (∀ x ∈ f, 1 ≤ x ∧ x ≤ m) → Fit m (ns ++ f) := fun f hf => by
    refine fit_of fun y hy => ?_
    rcases List.mem_append.mp hy with hy | hy
    · obtain ⟨i, hi, rfl⟩ := List.mem_iff_getElem.mp hy
      have := hF i hi
      unfold nsOf at this
      rw [List.getD_eq_getElem?_getD, List.getElem?_eq_getElem hi] at this
      exact this
    · exact hf y hy
  have hall : ∀ k, k ∈ ks' ↔ ∃ b : Nat, k = (b : Int) ∧ StartAt ns m b := fun k => by
    rw [hp.mem_iff, hk]
    constructor
    · rintro ⟨f, hf, rfl⟩
      obtain ⟨h1, _, h3⟩ := allF_mem hf
      exact ⟨_, rfl, startF_at (hfit f h3) h1⟩
    · rintro ⟨b, rfl, u, h1, h2, h | h⟩
      · exact ⟨[u, m], allF_two h1 h2 hm (Int.le_refl _), by rw [startF_two hF h1 h2, h]⟩
      · exact ⟨[u], allF_one h1 h2, by rw [startF_one hF h1 h2, h]⟩
  refine ⟨ks'.map Int.toNat, ?_, ?_, fun b => ?_⟩
  · rw [List.map_map]
    conv => lhs; rw [← List.map_id ks']
    refine List.map_congr_left fun k hk => ?_
    obtain ⟨b, rfl, _⟩ := (hall k).mp hk
    rfl
  · rw [List.pairwise_map]
    refine (List.Pairwise.and_mem.mp hpw).imp fun {x y} h => ?_
    obtain ⟨hx, hy, h⟩ := h
    obtain ⟨b, rfl, _⟩ := (hall x).mp hx
    obtain ⟨c2, rfl, _⟩ := (hall y).mp hy
    show b < c2
    omega
  · rw [List.mem_map]
    constructor
    · rintro ⟨k, hk, rfl⟩
      obtain ⟨b, rfl, h⟩ := (hall k).mp hk
      exact h
    · intro h
      exact ⟨(b : Int), (hall _).mpr ⟨b, rfl, h⟩, rfl⟩
end SL

set_option Elab.async false
set_option linter.all false
set_option maxRecDepth 100000
set_option maxHeartbeats 1000000
/-! Own layer 61: weighed layouts sorted; all plans of up to ten words. -/
namespace SL
open PySem PySem.Spec PyProof.Rows L2
def leW (a b : Int × List Nat) : Bool := decide (a.1 < b.1 ∨ (a.1 = b.1 ∧ a.2 ≤ b.2))
theorem eqv_nats_inj : ∀ {a b : List Nat}, PyData.eqvAll (a.map fun n : Nat => PyData.int (n : Int)) (b.map fun n : Nat => PyData.int (n : Int)) = true → a = b
  | [], [], _ => rfl
  | [], _ :: _, h => by simp [PyData.eqvAll] at h
  | _ :: _, [], h => by simp [PyData.eqvAll] at h
  | x :: a, y :: b, h => by
    simp only [List.map_cons, PyData.eqvAll, PyData.eqv, Bool.and_eq_true, beq_iff_eq] at h
    rw [eqv_nats_inj h.2, show x = y by omega]
theorem eqv_tup_inj {a b : List Nat} (h : PyData.eqv (tupD a) (tupD b) = true) : a = b := by
  unfold tupD at h
  simp only [PyData.eqv] at h
  exact eqv_nats_inj h
theorem lt_encW2 (p q : Int × List Nat) : PySem.W.dataLt (encW p) (encW q) = decide (p.1 < q.1 ∨ (p.1 = q.1 ∧ p.2 < q.2)) := by
  have ha : PySem.W.alike (tupD p.2) (tupD q.2) = true := by
    rw [tupD_eq, tupD_eq]
    exact PySem.W.alike_ints _ _
  unfold encW
  rw [PySem.W.dataLt_pair (by simp [PySem.W.alike]) ha, PySem.W.dataLt_int, lt_tupD]
  have he : ∀ a b : List Nat, (if (tupD a).eqv (tupD b) = true then false else decide (a < b)) = decide (a < b) := fun a b => by
    by_cases z : (tupD a).eqv (tupD b) = true
    · rw [if_pos z]
      rw [eqv_tup_inj z]
      exact (decide_eq_false (List.lt_irrefl b)).symm
    · rw [if_neg z]
  rw [he]
  simp only [PyData.eqv, beq_iff_eq]
  by_cases h : p.1 = q.1
  · rw [if_pos h, Bool.eq_iff_iff]
    simp only [decide_eq_true_eq]
    constructor
    · exact fun z => .inr ⟨h, z⟩
    · rintro (z | ⟨_, z⟩)
      · omega
      · exact z
  · rw [if_neg h, Bool.eq_iff_iff]
    simp only [decide_eq_true_eq]
    constructor
    · exact fun z => .inl z
    · rintro (z | ⟨z, _⟩)
      · exact z
      · exact absurd z h
theorem le_encW : PySem.W.dataLe false encW = leW := by
  funext a b
  show (!PySem.W.dataLt (encW b) (encW a)) = _
  rw [lt_encW2]
  unfold leW
  rw [Bool.eq_iff_iff, Bool.not_eq_true', decide_eq_false_iff_not, decide_eq_true_eq]
  constructor
  · intro h
    rcases Int.lt_trichotomy a.1 b.1 with z | z | z
    · exact .inl z
    · exact .inr ⟨z, List.not_lt.mp fun q => h (.inr ⟨z.symm, q⟩)⟩
    · exact absurd (.inl z) h
  · rintro (h | ⟨h, h2⟩) (k | ⟨k, k2⟩)
    · omega
    · omega
    · omega
    · exact List.not_lt.mpr h2 k2
theorem leW_trans (a b c : Int × List Nat) : leW a b = true → leW b c = true → leW a c = true := by
  unfold leW
  simp only [decide_eq_true_eq]
  rintro (h | ⟨h, h2⟩) (k | ⟨k, k2⟩)
  · exact .inl (by omega)
  · exact .inl (by omega)
  · exact .inl (by omega)
  · exact .inr ⟨by omega, List.le_trans h2 k2⟩
theorem leW_total (a b : Int × List Nat) : (leW a b || leW b a) = true := by
  unfold leW
  rw [Bool.or_eq_true, decide_eq_true_eq, decide_eq_true_eq]
  rcases Int.lt_trichotomy a.1 b.1 with z | z | z
  · exact .inl (.inl z)
  · rcases List.le_total a.2 b.2 with h | h
    · exact .inl (.inr ⟨z, h⟩)
    · exact .inr (.inr ⟨z.symm, h⟩)
  · exact .inr (.inl z)
theorem sortW_last {L : List (Int × List Nat)} {x : Int × List Nat} (hx : x ∈ L) (h : ∀ y ∈ L, leW y x = true) : ∃ M, L.mergeSort leW = M ++ [x] := by
  have hs := List.pairwise_mergeSort leW_trans leW_total L
  have hm : x ∈ L.mergeSort leW := List.mem_mergeSort.mpr hx
  have hne : L.mergeSort leW ≠ [] := fun e => by rw [e] at hm; cases hm
  obtain ⟨M, y, e⟩ : ∃ M y, L.mergeSort leW = M ++ [y] := ⟨_, _, (List.dropLast_concat_getLast hne).symm⟩
  rw [e] at hs hm ⊢
  have hy : y ∈ L := List.mem_mergeSort.mp (by rw [e]; simp)
  have h1 := h y hy
  have h2 : leW x y = true := by
    rcases List.mem_append.mp hm with hm | hm
    · exact (List.pairwise_append.mp hs).2.2 x hm y (List.mem_cons_self ..)
    · rw [List.mem_singleton.mp hm]
      unfold leW
      exact decide_eq_true (.inr ⟨rfl, List.le_refl _⟩)
  refine ⟨M, ?_⟩
  congr 2
  unfold leW at h1 h2
  have h1 := of_decide_eq_true h1
  have h2 := of_decide_eq_true h2
  rcases h1 with h1 | ⟨h1, h3⟩ <;> rcases h2 with h2 | ⟨h2, h4⟩
  · omega
  · omega
  · omega
  · exact Prod.ext h1 (List.le_antisymm h3 h4)
def rSortP (K : PySem.W.Frag) : List V → Hp → VK → Prop := fun vs H Q => ∃ (a : Addr) (xs : List V) (bs : List (Int × List Nat)), vs = [V.ref a] ∧ SqL K H a xs ∧ AllAt (WtAt K H) xs bs ∧ bs.length ≤ 2000 ∧
  ∀ ys p, H p = none → AllAt (WtAt K H) ys (bs.mergeSort leW) → Q (.ref p) (upd H p (.lst ys))
theorem alike_encs (ps : List (Int × List Nat)) : PySem.W.AllAlike (ps.map encW) := PySem.W.AllAlike.of fun p q => by
  have ha : PySem.W.alike (tupD p.2) (tupD q.2) = true := by
    rw [tupD_eq, tupD_eq]
    exact PySem.W.alike_ints _ _
  unfold encW
  simp [PySem.W.alike, PySem.W.alikeAll, ha]
section
variable {X : Cx}
theorem eachP_of {pins : List (Addr × Obj)} {σ : L2.St} {H : Hp} {s : Shared} (I : Inv X pins σ H s) : ∀ {xs : List V} {bs : List (Int × List Nat)} {us : List Value}, AllAt (WtAt X.K H) xs bs → Vals xs us → PySem.W.EachIs (fun u b => ∃ t, u = Value.ref t ∧ WtAt X.K H t b) us bs ∧ PySem.W.EachIs (fun v b => ∃ as, Reads s.heap v (encW b) as) us bs
  | [], [], us, _, r => by
    cases r
    exact ⟨.nil, .nil⟩
  | [], _ :: _, _, h, _ => nomatch h.1
  | _ :: _, [], _, h, _ => nomatch h.1
  | x :: xs, b :: bs, us, h, r => by
    cases r with
    | @cons _ u _ us r1 r2 =>
      obtain ⟨a, e, k⟩ := h.2 0 b rfl
      obtain rfl : x = .ref a := Option.some.inj e
      obtain rfl : u = Value.ref a := r1
      obtain ⟨e1, e2⟩ := eachP_of I h.tail r2
      obtain ⟨t, h1, h2⟩ := k
      exact ⟨.cons ⟨a, rfl, t, h1, h2⟩ e1, .cons (Dp.reads I _ _ _ (show Dp X.K H (.ref a) (encW b) from .tup (SqT.of h1) (.cons (.int _) (.cons (dp_tup h2) .nil))) rfl) e2⟩
theorem eachP_back {K : PySem.W.Frag} {H : Hp} : ∀ {us : List Value} {bs : List (Int × List Nat)}, PySem.W.EachIs (fun u b => ∃ t, u = Value.ref t ∧ WtAt K H t b) us bs → AllAt (WtAt K H) (us.map backA) bs ∧ Vals (us.map backA) us
  | _, _, .nil => ⟨AllAt.nil, .nil⟩
  | _, _, .cons (a := u) (b := b) (as := us) (bs := bs) ⟨t, e, k⟩ r => by
    subst e
    obtain ⟨h1, h2⟩ := eachP_back r
    refine ⟨⟨by simp [h1.1.symm], fun i p q => ?_⟩, .cons rfl h2⟩
    match i, q with
    | 0, q =>
      obtain rfl : b = p := Option.some.inj q
      exact ⟨t, rfl, k⟩
    | i + 1, q => exact h1.2 i p q
theorem cr_sortP (hu : X.A.units + 64 < cLine) : CallR X (.builtin "sorted") (rSortP X.K) := by
  intro pins s σ H vs us Q I r h
  obtain ⟨a, xs, bs, rfl, hs, hA, hL, q⟩ := h
  obtain ⟨its, rv, hl, hz⟩ := I.list hs
  rw [Vals.ref1 r]
  obtain ⟨e1, e2⟩ := eachP_of I hA rv
  have fin : ∀ out : List Value, out.length = bs.length → PySem.W.EachIs (fun u b => ∃ t, u = Value.ref t ∧ WtAt X.K H t b) out (bs.mergeSort leW) → EP X pins σ Q (.ref (s.heap.objs.size + 1)) { s with heap := sortedAll s.heap its (List.toArray out) } := fun out ho eo => by
    obtain ⟨h1, h2⟩ := eachP_back eo
    obtain ⟨ep, he'⟩ := PyProof.Rows.sortedAll_at s.heap its (List.toArray out)
    have hlen : (out.map backA).length ≤ sizeLine := by rw [List.length_map, ho, sizeLine_eq]; omega
    exact ⟨.ref _, upd H (s.heap.objs.size + 1) (.lst (out.map backA)), I.laid (t' := s.toks) (fun _ _ => PyProof.Rows.sortedAll_old) (Nat.le_succ _) ⟨hlen, out, ep, h2, he'⟩, rfl, q _ _ (I.hok.fresh (Nat.le_succ _)) h1⟩
  refine PySem.W.sorted_data (enc := encW) hl.isList e1 e2 (alike_encs bs) (.inl fun d hd => ?_) (by rw [sizeLine_eq]; omega) (fun b _ => ?_) fun out ho eo => fin out ho (by rw [le_encW] at eo; exact eo)
  · obtain ⟨b, hb, rfl⟩ := List.mem_map.mp hd
    exact ⟨_, _, rfl⟩
  · have hd : (encW b).depth ≤ 2 := by
      have := (can_ints b.2).2
      simp only [encW, PyData.depth, PyData.depthAll, tupD]
      omega
    omega
end
/-- of all plans, weighed by what they cost turned about: the best one is the last -/
theorem ranked_last {ns : List Int} {m : Int} {cost : List Nat → Int} {ess : List (List Nat)} {es : List Nat} (hB : BestC ns m cost es) (hm : es ∈ ess) (hc : ∀ e ∈ ess, Chain ns m 0 e ns.length) :
    ∃ M, (ess.map fun e => (0 - cost e, e.reverse)).mergeSort leW = M ++ [(0 - cost es, es.reverse)] := by
  refine sortW_last (List.mem_map.mpr ⟨es, hm, rfl⟩) fun y hy => ?_
  obtain ⟨e, he, rfl⟩ := List.mem_map.mp hy
  unfold leW
  refine decide_eq_true ?_
  rcases hB.2 e (hc e he) with h | ⟨h, h2⟩
  · exact .inl (by show 0 - cost e < 0 - cost es; omega)
  · exact .inr ⟨by show 0 - cost e = 0 - cost es; omega, h2⟩
def spPlans3 (K : PySem.W.Frag) : Sp := fun vs H Q _ => ∃ (m : Int) (t : Addr) (ns : List Int), vs = [.int m, .ref t] ∧ SqT K H t (ns.map V.int) ∧ ns.length ≤ 10 ∧
  ∀ H' l rs ess, Same H H' → H l = none → H' l = some (.lst rs) → AllAt (TpAt K H') rs ess → (∀ es ∈ ess, Chain ns m 0 es ns.length) → rs.length ≤ 1024 → (∀ zs, Chain ns m 0 zs ns.length → ess.count zs = 1) → Q (.ref l) H'
def spPaid2 (K : PySem.W.Frag) : Sp := fun vs H Q _ => ∃ (m : Int) (t l : Addr) (ns : List Int) (es : List Nat), vs = [.int m, .ref t, .ref l] ∧ SqT K H t (ns.map V.int) ∧ SqT K H l (es.map natV) ∧ Chain ns m 0 es ns.length ∧ (∀ x ∈ ns, 1 ≤ x) ∧ ns.length ≤ 1000 ∧ m ≤ 1000000000 ∧
  ∀ H', Same H H' → Q (.int (costO ns m es)) H'
def spBest2 (K : PySem.W.Frag) : Sp := fun vs H Q _ => ∃ (m : Int) (t : Addr) (ns : List Int), vs = [.int m, .ref t] ∧ SqT K H t (ns.map V.int) ∧ Fit m ns ∧ 1 ≤ m ∧ m ≤ 1000000000 ∧ ns.length ≤ 10 ∧
  ∀ H' r, Same H H' → H' r = some (.tup ((blay ns m).map natV)) → Q (.ref r) H'
def spFar (K : PySem.W.Frag) : Sp := fun vs H Q _ => ∃ (p t : Addr) (m : Int) (n : Nat) (ns : List Int), vs = [.ref p, .int m, .ref t] ∧ PotAt H p n ∧ n < 900000 ∧ SqT K H t (ns.map V.int) ∧ (∀ x ∈ ns, 1 ≤ x ∧ x ≤ m) ∧ 1 ≤ m ∧ m ≤ 1000000000 ∧ ns.length ≤ 60 ∧
  ∀ H', Kp p H H' → PotAt H' p (n + 30) → Q (.bl true) H'
theorem startF_le {ns fs : List Int} {m : Int} (hF : Fit m (ns ++ fs)) (hfs : fs ≠ []) : startF ns fs m ≤ ns.length := by
  obtain ⟨u, a, b, c | c⟩ := startF_at hF hfs
  · rw [c]; exact startC_le (fit_left hF) a b
  · rw [c]; exact startO_le (fit_left hF) a b
theorem zip_short {α : Type} : ∀ (x : α) (l : List α), (x :: l).zip l.dropLast = ((x :: l).zip l).dropLast
  | _, [] => rfl
  | x, [y] => rfl
  | x, y :: z :: l => by
    show (x, y) :: (y :: z :: l).zip (z :: l).dropLast = (x, y) :: ((y :: z :: l).zip (z :: l)).dropLast
    rw [zip_short y (z :: l)]
end SL

set_option Elab.async false
set_option linter.all false
set_option maxRecDepth 100000
set_option maxHeartbeats 2000000
/-! Own layer 62: sets of ints: discard, len, set(xs) of different ints; xs[i] += 1. -/
namespace SL
open PySem PySem.Spec PyProof.Rows L2
theorem erase_list {α : Type} (xs : Array α) (p : Nat) : (SetTable.eraseAt xs p).toList = xs.toList.eraseIdx p := by
  unfold SetTable.eraseAt
  rw [Array.toList_append, Array.toList_extract, Array.toList_extract, List.eraseIdx_eq_take_drop_succ]
  simp only [List.extract_eq_take_drop, Nat.sub_zero, List.drop_zero]
  congr 1
  rw [List.take_of_length_le (by rw [List.length_drop, Array.length_toList]; exact Nat.le_refl _)]
theorem insert_size {α : Type} (xs : Array α) (p : Nat) (x : α) : (SetTable.insertAt xs p x).size = xs.size + 1 := by
  unfold SetTable.insertAt
  simp
  omega
theorem drop_facts {t : SetTable} {n i : Nat} (hf : t.fits n = true) (hi : i < n) (hr : Ris t.place.toList) : (t.drop i).fits (n - 1) = true ∧ Ris (t.drop i).place.toList ∧ (t.drop i).led = t.led := by
  simp only [SetTable.fits, Bool.and_eq_true, beq_iff_eq, decide_eq_true_eq] at hf
  obtain ⟨h1, h2⟩ := hf
  have hp : t.place[i]? = some (t.place[i]'(by omega)) := Array.getElem?_eq_getElem (by omega)
  have e : t.drop i = { t with place := SetTable.eraseAt t.place i, dummies := SetTable.insertAt t.dummies (SetTable.below t.dummies (t.place[i]'(by omega))) (t.place[i]'(by omega)) } := by
    unfold SetTable.drop
    rw [hp]
  rw [e]
  have hs : (SetTable.eraseAt t.place i).size = n - 1 := by
    rw [← Array.length_toList, erase_list, List.length_eraseIdx_of_lt (by rw [Array.length_toList]; omega), Array.length_toList, h1]
  refine ⟨?_, ?_, rfl⟩
  · simp only [SetTable.fits, Bool.and_eq_true, beq_iff_eq, decide_eq_true_eq]
    refine ⟨hs, ?_⟩
    unfold SetTable.fill at h2 ⊢
    dsimp only
    rw [hs, insert_size]
    omega
  · show Ris (SetTable.eraseAt t.place i).toList
    rw [erase_list]
    exact List.Pairwise.sublist (List.eraseIdx_sublist _ _) hr
section
variable {P : Program} {w : World} {A : Around} {E : Value → Shared → Prop} {s : Shared} {a : Addr} {S : Int → Bool} {n : Nat}
theorem setR_discard_hashed {k : Int} {tk : Tok} {Q : Bool → Shared → Prop} (R : SetR w s.heap a S n)
    (hQ : ∀ h', Heap.SameBut a s.heap h' → SetR w h' a (fun j => S j && !decide (j = k)) (if S k = true then n - 1 else n) → Q (S k) { s with heap := h' }) :
    wpAny (model P w) A (setDiscardHashed a (.int k tk) ((intKind P w).hash k)) Q E s := by
  obtain ⟨o, es, ep, t, ho, hex, hd, g, nd, hm, hb, hf, hn, hr, hl⟩ := R
  have hkey : (intKind P w).is k (.int k tk) = true := intKind_is P w k tk
  have hsc : (Value.int k tk).scannable = true := rfl
  have hel : ElemsOf (intKind P w) es.toList := good_elems g
  unfold setDiscardHashed setFind setFindIn
  refine wpAny_bind (wpAny_bind (wpAny_setState_of ho hd hf ?_))
  dsimp only
  rw [byScan_of hsc hb hel]
  simp only [↓reduceIte]
  refine wpAny_bind (wpAny_rule ?_)
  refine wpAny_bind (wpAny_setScan_of hkey ho hd hf hel ?_)
  cases hfi : List.findIdx? (fun e => (intKind P w).is k e.2) es.toList with
  | none =>
    dsimp only
    have hnk : k ∉ es.toList.map keyOf := fun z => by
      obtain ⟨e, he, q⟩ := (good_mem (P := P) (w := w) g k).1 z
      have c := List.findIdx?_eq_none_iff.mp hfi e he
      rw [q] at c
      cases c
    have hSk : S k = false := by
      cases q : S k with
      | false => rfl
      | true => exact absurd ((hm k).1 q) hnk
    refine wpAny_pure (wpAny_pure ?_)
    have q := hQ s.heap (Heap.SameBut.refl a s.heap)
    rw [hSk] at q
    refine q ⟨o, es, ep, t, ho, hex, hd, g, nd, fun j => ?_, hb, hf, by simpa using hn, hr, hl⟩
    rw [← hm j]
    by_cases e : j = k
    · subst e
      simp [hSk]
    · simp [e]
  | some i =>
    dsimp only
    obtain ⟨hi, pi, _⟩ := List.findIdx?_eq_some_iff_getElem.mp hfi
    have hki : keyOf es.toList[i] = k := (good_is (P := P) (w := w) (g _ (List.getElem_mem hi)) k).1 pi
    have hSk : S k = true := (hm k).2 ((good_mem (P := P) (w := w) g k).2 ⟨es.toList[i], List.getElem_mem hi, pi⟩)
    have hie : i < es.size := by rw [← Array.length_toList]; exact hi
    obtain ⟨d1, d2, d3⟩ := drop_facts hf hie hr
    have hsz : (SetTable.eraseAt es i).size = es.size - 1 := by
      rw [← Array.length_toList, erase_list, List.length_eraseIdx_of_lt hi, Array.length_toList]
    refine wpAny_pure ?_
    dsimp only
    rw [Nat.zero_add]
    refine wpAny_bind (wpAny_setState_of ho hd hf ?_)
    dsimp only
    refine wpAny_bind (wpAny_storeSet_of ho hd ?_ (fits_of_scanBound (by omega)))
    have ho1 := store_at (es' := SetTable.eraseAt es i) (t' := t.drop i) ho hd
    refine wpAny_bind (wpAny_point (wpAny_pure ?_))
    have q := hQ _ (Heap.SameBut.update s.heap a (Obj.putSet (SetTable.eraseAt es i) (t.drop i)))
    rw [hSk] at q
    have perm : (keyOf es.toList[i] :: (SetTable.eraseAt es i).toList.map keyOf).Perm (es.toList.map keyOf) := by
      rw [erase_list]
      have := (erase_perm es.toList i es.toList[i] (List.getElem?_eq_getElem hi)).map keyOf
      exact this
    have nd2 := perm.nodup_iff.mpr nd
    obtain ⟨n1, n2⟩ := List.nodup_cons.mp nd2
    refine q ⟨_, SetTable.eraseAt es i, _, t.drop i, ho1, hex, rfl, fun e he => ?_, n2, fun j => ?_, by omega, by rw [hsz]; exact d1, by rw [hsz, hn]; simp, d2, hl.imp id fun z => by rw [d3]; exact z⟩
    · rw [erase_list] at he
      exact g e (List.mem_of_mem_eraseIdx he)
    · rw [Bool.and_eq_true, hm j, ← perm.mem_iff, List.mem_cons, hki]
      by_cases e : j = k
      · subst e
        rw [hki] at n1
        simp [n1]
      · simp [e]
theorem setR_discard {k : Int} {tk : Tok} {Q : Value → Shared → Prop} (R : SetR w s.heap a S n)
    (hQ : ∀ h', Heap.SameBut a s.heap h' → SetR w h' a (fun j => S j && !decide (j = k)) (if S k = true then n - 1 else n) → Q .none { s with heap := h', toks := s.toks + 1 }) :
    wpAny (model P w) A (call (.builtin "set.discard") [.ref a, .int k tk]) Q E s := by
  have hS : s.heap.SetOf (intKind P w) a S n := R.setOf
  refine wpAny_call_entry F.slot_set_discard hS.typeIs F.entry_set_discard ?_ (F.args_set_discard_2 _ _)
  unfold Builtin.«set.discard» Builtin.Frozenset.oneOther
  simp only [List.isEmpty_nil, bind_assoc]
  unfold Builtin.Frozenset.addrOf Builtin.Frozenset.withSetAsKey setDiscard
  refine wpAny_bind (wpAny_pure ?_)
  try dsimp only
  refine wpAny_bind (wpAny_pure ?_)
  try dsimp only
  refine wpAny_bind (wpAny_tryCatch ?_)
  refine wpAny_holding ?_
  refine wpAny_bind ((intKind P w).pyHash (intKind_is P w k tk) ?_)
  refine setR_discard_hashed (s := { s with toks := s.toks + 1 }) R fun h' sb r => ?_
  show wpAny _ _ (ret Value.none) _ _ _
  exact wpAny_pure ⟨_, rfl, hQ h' sb r⟩
theorem setR_count {h : Heap} {L : List Int} {c : Nat} (R : SetR w h a (fun j => decide (j ∈ L)) c) (hn : L.Nodup) : c = L.length := by
  obtain ⟨o, es, ep, t, ho, hex, hd, g, nd, hm, hb, hf, hc, hr, hl⟩ := R
  have p : (es.toList.map keyOf).Perm L := (List.perm_ext_iff_of_nodup nd hn).mpr fun k => by rw [← hm k, decide_eq_true_eq]
  rw [← hc, ← p.length_eq, List.length_map, Array.length_toList]
end
section
variable {X : Cx}
def rSDisc (w : World) : V → List V → Hp → VK → Prop := fun x xs H Q => ∃ (a : Addr) (k : Int) (S : Int → Bool) (n : Nat), x = V.ref a ∧ xs = [V.int k] ∧ H a = some (SetO w a S n) ∧
  Q .non (upd H a (SetO w a (fun j => S j && !decide (j = k)) (if S k = true then n - 1 else n)))
/-- found.discard(k) -/
theorem mt_sdiscard : MtR X "set.discard" (rSDisc X.w) := by
  intro pins s σ H x xs v us Q I rx rxs h
  obtain ⟨a, k, S, n, rfl, rfl, ha, q⟩ := h
  cases rx
  cases rxs with
  | cons ry rt =>
    cases rt
    obtain ⟨tk, rfl⟩ := ry
    have R := setO_get I ha
    refine setR_discard R fun h' sb new => ?_
    have he : ∃ u, h'.get? a = some u := by
      have ⟨o, _, _, _, ho, _⟩ := new
      exact ⟨o, ho⟩
    exact ⟨.non, upd H a (SetO X.w a (fun j => S j && !decide (j = k)) (if S k = true then n - 1 else n)), I.write (e := a) (t' := s.toks + 1) (by rw [ha]; trivial) (.inl rfl) (fun b u hb hu => (sb.2 b hb).trans hu) he (setO_new new), rfl, q⟩
def rLenO (w : World) : List V → Hp → VK → Prop := fun vs H Q => ∃ (a : Addr) (S : Int → Bool) (n : Nat), vs = [V.ref a] ∧ H a = some (SetO w a S n) ∧ Q (.int (n : Int)) H
/-- len(found) -/
theorem cr_lenO : CallR X (.builtin "len") (rLenO X.w) := by
  intro pins s σ H vs us Q I r h
  obtain ⟨a, S, n, rfl, ha, q⟩ := h
  rw [Vals.ref1 r]
  obtain ⟨o, es, ep, t, ho, hex, hd, g, nd, hm, hb, hf, hn, hr, hl⟩ := setO_get I ha
  refine call_len_set ho hex hd hf (by unfold scanBound at hb; omega) ?_
  rw [hn]
  exact ⟨.int (n : Int), H, (I.tok _).tok _, ⟨_, rfl⟩, q⟩
def rSetLN (K : PySem.W.Frag) (w : World) : List V → Hp → VK → Prop := fun vs H Q => ∃ (p : Addr) (ns : List Int), vs = [.ref p] ∧ SqL K H p (ns.map V.int) ∧ ns.length ≤ 4090 ∧ ns.Nodup ∧ ∀ a, H a = none → Q (.ref a) (upd H a (SetO w a (fun j => decide (j ∈ ns)) ns.length))
/-- set(xs) of different ints -/
theorem cr_setLN (hc : X.calm = true) : CallR X (.type "set") (rSetLN X.K X.w) := by
  intro pins s σ H vs us Q I r h
  obtain ⟨p, ns, rfl, hs, hl, hd, q⟩ := h
  rw [Vals.ref1 r]
  obtain ⟨its, rv, pt, hz⟩ := I.list hs
  refine set_of_ints ns (I.ok.hd hc) pt.isList (ints_of_vals rv) (by unfold scanBound; omega) fun h2 tk c R hcn k => ?_
  have e := setR_count R hd
  subst e
  exact ⟨.ref s.heap.objs.size, upd H s.heap.objs.size (SetO X.w s.heap.objs.size (fun j => decide (j ∈ ns)) ns.length), I.laid (t' := tk) k (Nat.le_refl _) (setO_new R), rfl, q _ (I.hok.fresh (Nat.le_refl _))⟩
def rGetL (K : PySem.W.Frag) : V → V → Hp → VK → Prop := fun x y H Q => ∃ (p : Addr) (xs : List V) (i : Int) (v : V), x = .ref p ∧ y = .int i ∧ 0 ≤ i ∧ SqL K H p xs ∧ atI xs i = some v ∧ Q v H
/-- xs[i], read to be changed -/
theorem pg_get : PGet X (rGetL X.K) := by
  intro pins s σ H x y v u Q I rx ry h
  obtain ⟨p, xs, i, z, rfl, rfl, h0, hq, he, q⟩ := h
  cases rx
  obtain ⟨t, rfl⟩ := ry
  obtain ⟨its, r, pl, hz⟩ := I.list hq
  obtain ⟨j, h1, h2, h3, h4, h5⟩ := atI_get he
  obtain ⟨w, ew, rw'⟩ := r.get h2
  have hn := line63
  have hj : i.toNat = j := by
    rw [seqIndex_of h0 h5] at h1
    exact Option.some.inj h1
  exact wpAny_getItem_list pl.isList h0 (by omega) (by rw [hj]; simpa using ew) ⟨z, H, I, rw', q⟩
end
end SL

set_option Elab.async false
set_option linter.all false
set_option maxRecDepth 100000
set_option maxHeartbeats 1000000
/-! Own layer 63: the states of places; what tells them; the settled end. -/
namespace SL
open PySem PySem.Spec PyProof.Rows L2
/-- an end of the best layout with every future; with none -/
def InAll (ns : List Int) (m : Int) (k : Nat) : Prop := k ∈ blay ns m ∧ ∀ b, StartAt ns m b → k ∈ pathOf ns m b
def InNone (ns : List Int) (m : Int) (k : Nat) : Prop := k ∉ blay ns m ∧ ∀ b, StartAt ns m b → k ∉ pathOf ns m b
def nameS (c n : Nat) : Str := if c = 0 then "never" else if c = n then "always" else "sometimes"
open Classical in
noncomputable def stS (ns : List Int) (m : Int) (k : Nat) : Str := if InNone ns m k then "never" else if InAll ns m k then "always" else "sometimes"
noncomputable def stL (ns : List Int) (m : Int) : List Str := (List.range ns.length).map fun i => stS ns m (i + 1)
theorem stL_len {ns : List Int} {m : Int} : (stL ns m).length = ns.length := by
  unfold stL
  rw [List.length_map, List.length_range]
theorem stL_at {ns : List Int} {m : Int} {i : Nat} (h : i < ns.length) : (stL ns m)[i]? = some (stS ns m (i + 1)) := by
  unfold stL
  rw [List.getElem?_map, List.getElem?_range h]
  rfl
/-- lists of ends in the text that tell the states -/
structure Tells (ns : List Int) (m : Int) (L : List (List Nat)) : Prop where
  all : ∀ e ∈ L, e = blay ns m ∨ ∃ b, StartAt ns m b ∧ e = pathOf ns m b
  own : blay ns m ∈ L
  st : ∀ b, StartAt ns m b → pathOf ns m b ∈ L
def cntE (L : List (List Nat)) (k : Nat) : Nat := L.countP fun e => decide (k ∈ e)
theorem Tells.none {ns : List Int} {m : Int} {L : List (List Nat)} (h : Tells ns m L) {k : Nat} : cntE L k = 0 ↔ InNone ns m k := by
  unfold cntE
  rw [List.countP_eq_zero]
  constructor
  · intro z
    exact ⟨fun q => z _ h.own (decide_eq_true q), fun b hb q => z _ (h.st b hb) (decide_eq_true q)⟩
  · rintro ⟨z1, z2⟩ e he q
    have q := of_decide_eq_true q
    rcases h.all e he with rfl | ⟨b, hb, rfl⟩
    · exact z1 q
    · exact z2 b hb q
theorem Tells.every {ns : List Int} {m : Int} {L : List (List Nat)} (h : Tells ns m L) {k : Nat} : cntE L k = L.length ↔ InAll ns m k := by
  unfold cntE
  rw [List.countP_eq_length]
  constructor
  · intro z
    exact ⟨of_decide_eq_true (z _ h.own), fun b hb => of_decide_eq_true (z _ (h.st b hb))⟩
  · rintro ⟨z1, z2⟩ e he
    refine decide_eq_true ?_
    rcases h.all e he with rfl | ⟨b, hb, rfl⟩
    · exact z1
    · exact z2 b hb
theorem Tells.name {ns : List Int} {m : Int} {L : List (List Nat)} (h : Tells ns m L) (k : Nat) : nameS (cntE L k) L.length = stS ns m k := by
  unfold nameS stS
  by_cases z : InNone ns m k
  · rw [if_pos z, if_pos (h.none.mpr z)]
  · rw [if_neg z, if_neg (fun q => z (h.none.mp q))]
    by_cases y : InAll ns m k
    · rw [if_pos y, if_pos (h.every.mpr y)]
    · rw [if_neg y, if_neg (fun q => y (h.every.mp q))]
theorem Tells.pos {ns : List Int} {m : Int} {L : List (List Nat)} (h : Tells ns m L) : 0 < L.length := List.length_pos_iff.mpr fun z => by
  have := h.own
  rw [z] at this
  cases this
/-- the ends in the text of the best layout with a future -/
def endsF (ns : List Int) (m : Int) (f : List Int) : List Nat := (blay (ns ++ f) m).filter fun x => decide (x ≤ ns.length)
theorem endsF_nil {ns : List Int} {m : Int} (hF : Fit m ns) : endsF ns m [] = blay ns m := by
  unfold endsF
  rw [List.append_nil]
  refine List.filter_eq_self.mpr fun x hx => ?_
  have := (blay_char hF).1.1.mem x hx
  simpa using this
theorem endsF_some {ns f : List Int} {m : Int} (hF : Fit m (ns ++ f)) (hf : f ≠ []) : ∃ b, StartAt ns m b ∧ endsF ns m f = pathOf ns m b := fut_any hF hf
theorem endsF_one {ns : List Int} {m u : Int} (hF : Fit m ns) (h1 : 1 ≤ u) (h2 : u ≤ m) : endsF ns m [u] = pathOf ns m (startO ns m u) := by
  unfold endsF
  rw [fut_open hF h1 h2, filter_path hF (startO_le hF h1 h2) _ (fun x hx => by obtain rfl := List.mem_singleton.mp hx; omega)]
theorem endsF_two {ns : List Int} {m u : Int} (hF : Fit m ns) (h1 : 1 ≤ u) (h2 : u ≤ m) : endsF ns m [u, m] = pathOf ns m (startC ns m u) := by
  unfold endsF
  rw [fut_closed hF h1 h2, filter_path hF (startC_le hF h1 h2) _ (fun x hx => by simp at hx; omega)]
/-- futures that tell everything: each is one, the empty one and those of one and two words among them -/
theorem tells_of {ns : List Int} {m : Int} {Fs : List (List Int)} (hF : Fit m ns) (hm : 1 ≤ m) (h1 : ∀ f ∈ Fs, ∀ x ∈ f, 1 ≤ x ∧ x ≤ m) (h2 : [] ∈ Fs) (h3 : ∀ u, 1 ≤ u → u ≤ m → [u] ∈ Fs ∧ [u, m] ∈ Fs) : Tells ns m (Fs.map (endsF ns m)) := by
  refine ⟨fun e he => ?_, List.mem_map.mpr ⟨[], h2, endsF_nil hF⟩, ?_⟩
  · obtain ⟨f, hf, rfl⟩ := List.mem_map.mp he
    by_cases h0 : f = []
    · rw [h0]
      exact .inl (endsF_nil hF)
    · refine .inr (endsF_some (fit_of fun y hy => ?_) h0)
      rcases List.mem_append.mp hy with hy | hy
      · exact fit_all hF y hy
      · exact h1 f hf y hy
  · rintro b ⟨u, u1, u2, rfl | rfl⟩
    · exact List.mem_map.mpr ⟨_, (h3 u u1 u2).2, endsF_two hF u1 u2⟩
    · exact List.mem_map.mpr ⟨_, (h3 u u1 u2).1, endsF_one hF u1 u2⟩
/-! ### the program's tellers -/
def TlAt (K : PySem.W.Frag) (H : Hp) (a : Addr) (p : List Int × List Nat) : Prop := ∃ f e, H a = some (.tup [.ref f, .ref e]) ∧ SqT K H f (p.1.map V.int) ∧ TpAt K H e p.2
theorem TlAt.same {K : PySem.W.Frag} {H H' : Hp} (k : Same H H') : ∀ a p, TlAt K H a p → TlAt K H' a p := fun _ _ ⟨f, e, h1, h2, h3⟩ => ⟨f, e, k _ _ h1, Same.tup k h2, Same.tup k h3⟩
theorem TlAt.lst {K : PySem.W.Frag} {H : Hp} {l : Addr} {ys : List V} {o : HO} (hl : H l = some (.lst ys)) : ∀ a p, TlAt K H a p → TlAt K (upd H l o) a p := fun _ _ ⟨f, e, h1, h2, h3⟩ => ⟨f, e, tup_past hl h1, sqT_past hl h2, sqT_past hl h3⟩
def tlO (ns : List Int) (m : Int) (p : Int × Int × Nat) : List Int × List Nat := ([p.1], pathOf ns m p.2.2)
def tlC (ns : List Int) (m : Int) (p : Int × Int × Nat) : List Int × List Nat := ([p.1, m], pathOf ns m p.2.2)
def telL (ns : List Int) (m : Int) (RO RC : List (Int × Int × Nat)) : List (List Int × List Nat) := ([], blay ns m) :: (RO.map (tlO ns m) ++ RC.map (tlC ns m))
theorem telL_ends {ns : List Int} {m : Int} {RO RC : List (Int × Int × Nat)} (hF : Fit m ns) (hm : 1 ≤ m) (hO : RangesFor m (startO ns m) RO) (hC : RangesFor m (startC ns m) RC) :
    (∀ t ∈ telL ns m RO RC, (∀ x ∈ t.1, 1 ≤ x ∧ x ≤ m) ∧ t.1.length ≤ 2 ∧ endsF ns m t.1 = t.2) ∧ Tells ns m ((telL ns m RO RC).map (·.2)) := by
  have hall : ∀ t ∈ telL ns m RO RC, (∀ x ∈ t.1, 1 ≤ x ∧ x ≤ m) ∧ t.1.length ≤ 2 ∧ endsF ns m t.1 = t.2 := fun t ht => by
    rcases List.mem_cons.mp ht with rfl | ht
    · exact ⟨(fun _ z => nomatch z), Nat.zero_le _, endsF_nil hF⟩
    · rcases List.mem_append.mp ht with ht | ht
      · obtain ⟨p, hp, rfl⟩ := List.mem_map.mp ht
        obtain ⟨a1, a2, a3, a4⟩ := hO.cov.mem p hp
        refine ⟨fun x hx => by obtain rfl := List.mem_singleton.mp hx; omega, (by show 1 ≤ 2; decide), ?_⟩
        show endsF ns m [p.1] = pathOf ns m p.2.2
        rw [endsF_one hF a1 (by omega), a4 p.1 (Int.le_refl _) a2]
      · obtain ⟨p, hp, rfl⟩ := List.mem_map.mp ht
        obtain ⟨a1, a2, a3, a4⟩ := hC.cov.mem p hp
        refine ⟨fun x hx => ?_, Nat.le_refl 2, ?_⟩
        · have hx : x ∈ [p.1, m] := hx
          simp at hx
          omega
        show endsF ns m [p.1, m] = pathOf ns m p.2.2
        rw [endsF_two hF a1 (by omega), a4 p.1 (Int.le_refl _) a2]
  refine ⟨hall, ⟨fun e he => ?_, List.mem_map.mpr ⟨([], blay ns m), List.mem_cons_self .., rfl⟩, ?_⟩⟩
  · obtain ⟨t, ht, rfl⟩ := List.mem_map.mp he
    rcases List.mem_cons.mp ht with rfl | ht
    · exact .inl rfl
    · rcases List.mem_append.mp ht with ht | ht
      · obtain ⟨p, hp, rfl⟩ := List.mem_map.mp ht
        obtain ⟨a1, a2, a3, a4⟩ := hO.cov.mem p hp
        exact .inr ⟨p.2.2, ⟨p.1, a1, by omega, .inr (a4 p.1 (Int.le_refl _) a2).symm⟩, rfl⟩
      · obtain ⟨p, hp, rfl⟩ := List.mem_map.mp ht
        obtain ⟨a1, a2, a3, a4⟩ := hC.cov.mem p hp
        exact .inr ⟨p.2.2, ⟨p.1, a1, by omega, .inl (a4 p.1 (Int.le_refl _) a2).symm⟩, rfl⟩
  · rintro b ⟨u, h1, h2, h | h⟩
    · obtain ⟨r, hr2, _, _, h3⟩ := hC.cov.at_ u h1 h2
      exact List.mem_map.mpr ⟨tlC ns m r, List.mem_cons_of_mem _ (List.mem_append_right _ (List.mem_map.mpr ⟨r, hr2, rfl⟩)), by rw [h, h3]; rfl⟩
    · obtain ⟨r, hr2, _, _, h3⟩ := hO.cov.at_ u h1 h2
      exact List.mem_map.mpr ⟨tlO ns m r, List.mem_cons_of_mem _ (List.mem_append_left _ (List.mem_map.mpr ⟨r, hr2, rfl⟩)), by rw [h, h3]; rfl⟩
def spTellers (K : PySem.W.Frag) (C : Addr) : Sp := fun vs H Q _ => ∃ (H0 : Hp) (p : Addr) (m : Int) (ns : List Int), vs = [.ref p] ∧ TabAt C H0 H p m ns ∧ Fit m ns ∧ 1 ≤ m ∧ m ≤ 1000000000 ∧ ns.length ≤ 2000 ∧
  ∀ H' l rs RO RC, Same H H' → H l = none → H' l = some (.lst rs) → AllAt (TlAt K H') rs (telL ns m RO RC) → RangesFor m (startO ns m) RO → RangesFor m (startC ns m) RC → RO.length ≤ 2001 → RC.length ≤ 2001 → Q (.ref l) H'
def spStatesIn (C : Addr) : Sp := fun vs H Q _ => ∃ (H0 : Hp) (p : Addr) (m : Int) (ns : List Int), vs = [.ref p] ∧ TabAt C H0 H p m ns ∧ Fit m ns ∧ 1 ≤ m ∧ m ≤ 1000000000 ∧ ns.length ≤ 2000 ∧
  ∀ H' l, Same H H' → H l = none → H' l = some (.lst ((stL ns m).map V.str)) → Q (.ref l) H'
def spStates (K : PySem.W.Frag) : Sp := fun vs H Q _ => ∃ (m : Int) (t : Addr) (ns : List Int), vs = [.int m, .ref t] ∧ SqT K H t (ns.map V.int) ∧ Fit m ns ∧ 1 ≤ m ∧ m ≤ 1000000000 ∧ ns.length ≤ 2000 ∧
  ∀ H' r, Same H H' → SqT K H' r ((stL ns m).map V.str) → Q (.ref r) H'
def spCheckPlace (K : PySem.W.Frag) : Sp := fun vs H Q _ => ∃ (t : Addr) (ns : List Int) (k : Nat), vs = [.ref t, natV k] ∧ SqT K H t (ns.map V.int) ∧ 1 ≤ k ∧ k ≤ ns.length ∧ ∀ H', Same H H' → Q .non H'
def spStateOf (K : PySem.W.Frag) : Sp := fun vs H Q _ => ∃ (m : Int) (t : Addr) (ns : List Int) (k : Nat), vs = [.int m, .ref t, natV k] ∧ SqT K H t (ns.map V.int) ∧ Fit m ns ∧ 1 ≤ m ∧ m ≤ 1000000000 ∧ ns.length ≤ 2000 ∧ 1 ≤ k ∧ k ≤ ns.length ∧
  ∀ H', Same H H' → Q (.str (stS ns m k)) H'
/-- the number of the words in the settled lines -/
def SetEnd (ns : List Int) (m : Int) (e : Nat) : Prop := SetE ns m (StartAt ns m) e
def spSetEnd (C : Addr) : Sp := fun vs H Q _ => ∃ (H0 : Hp) (p : Addr) (m : Int) (ns : List Int), vs = [.ref p] ∧ TabAt C H0 H p m ns ∧ Fit m ns ∧ 1 ≤ m ∧ m ≤ 1000000000 ∧ ns.length ≤ 2000 ∧
  ∀ H' e, Same H H' → SetEnd ns m e → e ≤ ns.length → Q (natV e) H'
def spSetLines (K : PySem.W.Frag) : Sp := fun vs H Q _ => ∃ (m : Int) (t : Addr) (ns : List Int), vs = [.int m, .ref t] ∧ SqT K H t (ns.map V.int) ∧ Fit m ns ∧ 1 ≤ m ∧ m ≤ 1000000000 ∧ ns.length ≤ 1000 ∧
  ∀ H' r rs e, Same H H' → SetEnd ns m e → e ≤ ns.length → H' r = some (.tup rs) → AllAt (PrAt H') rs ((prs 0 (pathOf ns m e)).map pairV) → Q (.ref r) H'
def spSetWords (K : PySem.W.Frag) : Sp := fun vs H Q _ => ∃ (m : Int) (t : Addr) (ns : List Int), vs = [.int m, .ref t] ∧ SqT K H t (ns.map V.int) ∧ Fit m ns ∧ 1 ≤ m ∧ m ≤ 1000000000 ∧ ns.length ≤ 2000 ∧
  ∀ H' e, Same H H' → SetEnd ns m e → e ≤ ns.length → Q (natV e) H'
/-! ### counts -/
/-- for each place how many of the lists have it, and one more for those of p -/
def cntA (n : Nat) (L : List (List Nat)) (p : List Nat) : List V := (List.range (n + 1)).map fun k => V.int ((cntE L k : Int) + if k ∈ p then 1 else 0)
theorem cntA_len {n : Nat} {L : List (List Nat)} {p : List Nat} : (cntA n L p).length = n + 1 := by
  unfold cntA
  rw [List.length_map, List.length_range]
theorem cntA_at {n e : Nat} {L : List (List Nat)} {p : List Nat} (h : e ≤ n) : (cntA n L p)[e]? = some (V.int ((cntE L e : Int) + if e ∈ p then 1 else 0)) := by
  unfold cntA
  rw [List.getElem?_map, List.getElem?_range (by omega)]
  rfl
theorem cntA_step {n e : Nat} {L : List (List Nat)} {p : List Nat} (h : e ≤ n) (hp : e ∉ p) : (cntA n L p).set e (V.int ((cntE L e : Int) + (if e ∈ p then 1 else 0) + 1)) = cntA n L (p ++ [e]) := by
  refine List.ext_getElem? fun i => ?_
  by_cases hi : i ≤ n
  · rw [cntA_at hi]
    by_cases he : i = e
    · subst he
      rw [List.getElem?_set_self (by rw [cntA_len]; omega), if_neg hp, if_pos (by simp)]
      congr 2
    · rw [List.getElem?_set_ne (fun z => he z.symm), cntA_at hi]
      congr 3
      simp [he]
  · rw [List.getElem?_eq_none (by rw [List.length_set, cntA_len]; omega), List.getElem?_eq_none (by rw [cntA_len]; omega)]
theorem cntA_done {n : Nat} {L : List (List Nat)} {p : List Nat} : cntA n L p = cntA n (L ++ [p]) [] := by
  unfold cntA
  refine List.map_congr_left fun k _ => ?_
  congr 1
  unfold cntE
  rw [List.countP_append, List.countP_singleton]
  by_cases h : k ∈ p
  · simp [h]
  · simp [h]
theorem cntA_zero {n : Nat} : cntA n [] [] = List.replicate (n + 1) (V.int 0) := by
  refine List.eq_replicate_iff.mpr ⟨cntA_len, fun v hv => ?_⟩
  obtain ⟨k, _, rfl⟩ := List.mem_map.mp hv
  simp [cntE]
theorem cntA_name {ns : List Int} {m : Int} {L : List (List Nat)} (h : Tells ns m L) : ((cntA ns.length L []).drop 1) = (List.range ns.length).map fun i => V.int (cntE L (i + 1) : Int) := by
  refine List.ext_getElem? fun i => ?_
  rw [List.getElem?_drop, List.getElem?_map]
  by_cases hi : i < ns.length
  · rw [cntA_at (by omega), List.getElem?_range hi, Nat.add_comm 1 i]
    simp
  · rw [List.getElem?_eq_none (by rw [cntA_len]; omega), List.getElem?_eq_none (by rw [List.length_range]; omega)]
    rfl
end SL

set_option Elab.async false
set_option linter.all false
set_option maxRecDepth 100000
set_option maxHeartbeats 1000000
/-! Own layer 64: states as data; all futures of few words tell the states. -/
namespace SL
open PySem PySem.Spec PyProof.Rows L2
theorem dp_strs {K : PySem.W.Frag} {H : Hp} : ∀ xs : List Str, DpAll K H (xs.map V.str) (xs.map PyData.str)
  | [] => .nil
  | x :: xs => .cons (.str x) (dp_strs xs)
theorem sm_st (ns : List Int) (m : Int) (k : Nat) : Sm 120 0 (.str (stS ns m k)) := by
  unfold stS
  split
  · exact ⟨by decide +kernel, by decide +kernel, by decide +kernel⟩
  · split
    · exact ⟨by decide +kernel, by decide +kernel, by decide +kernel⟩
    · exact ⟨by decide +kernel, by decide +kernel, by decide +kernel⟩
theorem sm_sts {ns : List Int} {m : Int} {N : Nat} (h : ns.length ≤ N) : Sm (N * 122 + 3) 1 (.tuple ((stL ns m).map PyData.str)) :=
  Sm.tuple (b := 120) (k := 0) (fun d hd => by
    obtain ⟨x, hx, rfl⟩ := List.mem_map.mp hd
    unfold stL at hx
    obtain ⟨i, _, rfl⟩ := List.mem_map.mp hx
    exact sm_st ns m _) (by rw [List.length_map, stL_len]; exact h)
theorem tells_all {ns : List Int} {m : Int} (hF : Fit m ns) (hm : 1 ≤ m) : Tells ns m ((allF m 3).map (endsF ns m)) := by
  have e : allF m 3 = [] :: (allF m 3).drop 1 := rfl
  refine tells_of hF hm (fun f hf x hx => ?_) (by rw [e]; exact List.mem_cons_self ..) (fun u h1 h2 => ⟨List.mem_of_mem_drop (allF_one h1 h2), List.mem_of_mem_drop (allF_two h1 h2 hm (Int.le_refl m))⟩)
  rw [e] at hf
  rcases List.mem_cons.mp hf with rfl | hf
  · cases hx
  · exact (allF_mem hf).2.2 x hx
theorem allF_words {m : Int} {f : List Int} (hf : f ∈ allF m 3) : f.length ≤ 3 ∧ ∀ x ∈ f, 1 ≤ x ∧ x ≤ m := by
  have e : allF m 3 = [] :: (allF m 3).drop 1 := rfl
  rw [e] at hf
  rcases List.mem_cons.mp hf with rfl | hf
  · exact ⟨Nat.zero_le _, fun _ z => nomatch z⟩
  · exact (allF_mem hf).2
def spDue20 (K : PySem.W.Frag) : Sp := fun vs H Q _ => ∃ (m : Int) (t : Addr) (ns : List Int), vs = [.int m, .ref t] ∧ SqT K H t (ns.map V.int) ∧ Fit m ns ∧ 1 ≤ m ∧ m ≤ 5 ∧ ns.length ≤ 20 ∧
  ∀ H' r, Same H H' → SqT K H' r ((stL ns m).map V.str) → Q (.ref r) H'
theorem endsF_asc {ns f : List Int} {m : Int} (hF : Fit m ns) (h : ∀ x ∈ f, 1 ≤ x ∧ x ≤ m) : (endsF ns m f).Pairwise (· < ·) ∧ ∀ e ∈ endsF ns m f, 1 ≤ e ∧ e ≤ ns.length := by
  have hF2 : Fit m (ns ++ f) := fit_of fun y hy => by
    rcases List.mem_append.mp hy with hy | hy
    · exact fit_all hF y hy
    · exact h y hy
  have hch := (blay_char hF2).1.1
  refine ⟨hch.asc.1.filter _, fun e he => ?_⟩
  obtain ⟨h1, h2⟩ := List.mem_filter.mp he
  exact ⟨hch.asc.2 e h1, of_decide_eq_true h2⟩
theorem asc_notin {l : List Nat} (h : l.Pairwise (· < ·)) {j e : Nat} (he : l[j]? = some e) : e ∉ l.take j := fun z => by
  obtain ⟨i, hi, e2⟩ := List.mem_iff_getElem.mp z
  rw [List.length_take] at hi
  obtain ⟨hj, e3⟩ := List.getElem?_eq_some_iff.mp he
  rw [List.getElem_take] at e2
  have := List.pairwise_iff_getElem.mp h i j (by omega) hj (by omega)
  omega
theorem own_ix {n j : Nat} (hj : j < n) : ixN n (j : Int) = some j := by
  simp only [ixN]
  split
  · split
    · exact congrArg some (Int.toNat_natCast j)
    · omega
  · omega
end SL

set_option Elab.async false
set_option linter.all false
set_option maxRecDepth 100000
set_option maxHeartbeats 1000000
/-! Own layer 65: methods of a set of ints; the way down to the settled end. -/
namespace SL
open PySem PySem.Spec PyProof.Rows L2
section
variable {X : Cx}
def tSetM (w : World) (r : V → List V → Hp → VK → Prop) (to : TE) (t : TA) : TE := fun σ G Z => to σ G fun y G1 => (∃ b S k, y = V.ref b ∧ G1 b = some (SetO w b S k)) ∧ t σ G1 fun ys G2 => r y ys G2 Z
theorem pe_setm {o e : Expr} {es : List Expr} {to : TE} {t : TA} {apos cpos : Pos} {name : Str} {id : String} {r : V → List V → Hp → VK → Prop} (sl : Slot "set" name id) (hty : typeOf (.builtin id) = pure (.type "method_descriptor")) (hm : MtR X id r)
    (po : PE X o to) (pa : PA X (e :: es) t)
    (hb : attributeBase o name X.env (eval o X.env) = eval o X.env := by rfl)
    (hf : ((backTo cpos (starEach (e :: es) X.env)).all (fun x => !x.1) && (backToKw cpos (keywordEach [] X.env)).all (fun x => x.1.isSome) && decide ((e :: es).length + ([] : List Keyword).length + (if ([] : List Keyword).isEmpty then 0 else 1) < 30)) = true := by rfl)
    (hl : (apos.endLine == cpos.line) = true := by rfl) (hs : starEach (e :: es) X.env = (false, eval e X.env) :: starEach es X.env := by rfl) (hp : (backTo cpos (starEach es X.env)).any (·.1) = false := by rfl) :
    PE X (.Call (.Attribute o name apos) (e :: es) [] cpos) (tSetM X.w r to t) := by
  refine ⟨fun pins s σ H Q I h => ?_⟩
  refine wpAny_Call_method_late hb hf hl rfl (thn (po.run pins s σ H _ I h) fun u s1 ⟨y, G1, J1, ry, ty, q1⟩ => ?_)
  obtain ⟨b, S, k, rfl, hb2⟩ := ty
  have R := (setO_get J1 hb2).setOf (P := X.prog)
  cases ry
  refine ⟨"set", id, F.plainAttrs_set, sl, hty, R.typeIs, R.noDict, ?_⟩
  have hA := pa.run cpos pins s1 σ G1 _ J1 q1
  rw [hs] at hA ⊢
  refine Calls.callWith_builtin (by show (false || (backTo cpos (starEach es X.env)).any (·.1)) = false; rw [hp]; rfl) (Calls.evalArgs_plain ?_)
  exact thn hA fun ws s2 ⟨zs, G2, J2, rz, q2⟩ => hm pins s2 σ G2 (.ref b) zs (.ref b) ws Q J2 rfl rz q2
end
/-! ### the way down -/
def castL (M : List Nat) : List Int := M.map fun x : Nat => (x : Int)
theorem castL_mem {M : List Nat} {x : Nat} : (x : Int) ∈ castL M ↔ x ∈ M := by
  unfold castL
  rw [List.mem_map]
  constructor
  · rintro ⟨y, hy, e⟩
    have : y = x := by omega
    rwa [← this]
  · exact fun h => ⟨x, h, rfl⟩
def SetM (w : World) (a : Addr) (M : List Nat) : HO := SetO w a (fun j => decide (j ∈ castL M)) M.length
theorem setM_disc {w : World} {a : Addr} {M : List Nat} {e : Nat} (hM : M.Nodup) (he : e ∈ M) : SetO w a (fun j => (fun j => decide (j ∈ castL M)) j && !decide (j = (e : Int))) (if (fun j => decide (j ∈ castL M)) (e : Int) = true then M.length - 1 else M.length) = SetM w a (M.erase e) := by
  unfold SetM
  congr 1
  · funext j
    rw [Bool.eq_iff_iff]
    simp only [Bool.and_eq_true, Bool.not_eq_true', decide_eq_false_iff_not, decide_eq_true_eq]
    unfold castL
    rw [List.mem_map, List.mem_map]
    constructor
    · rintro ⟨⟨x, hx, rfl⟩, h⟩
      exact ⟨x, (List.Nodup.mem_erase_iff hM).mpr ⟨fun z => h (by rw [z]), hx⟩, rfl⟩
    · rintro ⟨x, hx, rfl⟩
      obtain ⟨h1, h2⟩ := (List.Nodup.mem_erase_iff hM).mp hx
      exact ⟨⟨x, h2, rfl⟩, fun z => h1 (by omega)⟩
  · rw [if_pos (decide_eq_true (castL_mem.mpr he)), List.length_erase_of_mem he]
def addL (M : List Nat) (b : Nat) : List Nat := if b ∈ M then M else b :: M
theorem setM_add {w : World} {a : Addr} {M : List Nat} {b : Nat} : SetO w a (fun j => (fun j => decide (j ∈ castL M)) j || decide (j = (b : Int))) (if (fun j => decide (j ∈ castL M)) (b : Int) = true then M.length else M.length + 1) = SetM w a (addL M b) := by
  unfold SetM addL
  by_cases h : b ∈ M
  · rw [if_pos h, if_pos (decide_eq_true (castL_mem.mpr h))]
    congr 1
    funext j
    rw [Bool.eq_iff_iff]
    simp only [Bool.or_eq_true, decide_eq_true_eq]
    constructor
    · rintro (z | rfl)
      · exact z
      · exact castL_mem.mpr h
    · exact fun z => .inl z
  · rw [if_neg h, if_neg (by simp [castL_mem, h])]
    congr 1
    funext j
    rw [Bool.eq_iff_iff]
    simp only [Bool.or_eq_true, decide_eq_true_eq]
    unfold castL
    rw [List.map_cons, List.mem_cons]
    exact Or.comm
theorem addL_mem {M : List Nat} {b x : Nat} : x ∈ addL M b ↔ x ∈ M ∨ x = b := by
  unfold addL
  split
  · constructor
    · exact fun h => .inl h
    · rintro (h | rfl)
      · exact h
      · assumption
  · rw [List.mem_cons]
    exact Or.comm
theorem addL_nodup {M : List Nat} {b : Nat} (h : M.Nodup) : (addL M b).Nodup := by
  unfold addL
  split
  · exact h
  · exact List.nodup_cons.mpr ⟨by assumption, h⟩
theorem other_of {M : List Nat} {e : Nat} (hM : M.Nodup) (hl : 1 < M.length) : ∃ w ∈ M, w ≠ e := by
  match M, hM, hl with
  | a :: b :: r, hM, _ =>
    by_cases h : a = e
    · refine ⟨b, by simp, fun z => ?_⟩
      rw [h, z] at hM
      simp at hM
    · exact ⟨a, by simp, h⟩
/-- one step down -/
theorem way_step {ns : List Int} {m : Int} (hF : Fit m ns) {M : List Nat} {e : Nat} (hM : M.Nodup) (hl : 1 < M.length) (h0 : 0 < e) (he : e ≤ ns.length) (hm : e ∈ M) (hle : ∀ x ∈ M, x ≤ e) :
    (∀ x, Common ns m (fun y => y ∈ M) x ↔ Common ns m (fun y => y ∈ addL (M.erase e) (fB (nsOf ns) m e)) x) ∧ (addL (M.erase e) (fB (nsOf ns) m e)).Nodup ∧ (∀ x ∈ addL (M.erase e) (fB (nsOf ns) m e), x ≤ e - 1) ∧ 0 < (addL (M.erase e) (fB (nsOf ns) m e)).length := by
  obtain ⟨w, hw, hwe⟩ := other_of (e := e) hM hl
  have hlt := fB_lt' hF (show 1 ≤ e by omega) he
  refine ⟨fun x => ?_, addL_nodup (hM.erase e), fun x hx => ?_, ?_⟩
  · rw [common_step hF h0 he hm hw hwe hle x]
    refine forall_congr' fun y => ?_
    show ((y ∈ M ∧ y ≠ e) ∨ y = _ → _) ↔ (y ∈ addL (M.erase e) (fB (nsOf ns) m e) → _)
    rw [addL_mem, List.Nodup.mem_erase_iff hM, And.comm]
  · rcases addL_mem.mp hx with h | rfl
    · obtain ⟨h1, h2⟩ := (List.Nodup.mem_erase_iff hM).mp h
      have := hle x h2
      omega
    · omega
  · exact List.length_pos_of_mem (addL_mem.mpr (.inr rfl))
theorem way_end {ns : List Int} {m : Int} (hF : Fit m ns) {M : List Nat} {S : Nat → Prop} (hl : ¬ 1 < M.length) (h0 : 0 < M.length) (hle : ∀ x ∈ M, x ≤ ns.length) (hc : ∀ x, Common ns m (fun y => y ∈ M) x ↔ Common ns m S x) : ∃ w, M = [w] ∧ SetE ns m S w := by
  match M, hl, h0 with
  | [w], _, _ =>
    refine ⟨w, rfl, (SetE.single hF (hle w (by simp))).congr fun x => ?_⟩
    rw [← hc x]
    refine forall_congr' fun y => ?_
    show (y = w → _) ↔ (y ∈ [w] → _)
    rw [List.mem_singleton]
  | _ :: _ :: _, hl, _ => simp at hl
end SL

set_option Elab.async false
set_option linter.all false
set_option maxRecDepth 100000
set_option maxHeartbeats 1000000
/-! Own layer 66: two futures; few futures. -/
namespace SL
open PySem PySem.Spec PyProof.Rows L2
def hasE (k : Nat) (t : List Int × List Nat) : Bool := decide (k ∈ t.2)
def spTwo (K : PySem.W.Frag) : Sp := fun vs H Q _ => ∃ (m : Int) (t : Addr) (ns : List Int) (k : Nat), vs = [.int m, .ref t, natV k] ∧ SqT K H t (ns.map V.int) ∧ Fit m ns ∧ 1 ≤ m ∧ m ≤ 1000000000 ∧ ns.length ≤ 2000 ∧ 1 ≤ k ∧ k ≤ ns.length ∧
  (∀ H', Same H H' → InNone ns m k ∨ InAll ns m k → Q .non H') ∧
  ∀ H' r a b t1 t2 RO RC, Same H H' → ¬ InNone ns m k → ¬ InAll ns m k → H' r = some (.tup [.ref a, .ref b]) → SqT K H' a (t1.1.map V.int) → SqT K H' b (t2.1.map V.int) → RangesFor m (startO ns m) RO → RangesFor m (startC ns m) RC →
    ((telL ns m RO RC).filter (hasE k)).head? = some t1 → ((telL ns m RO RC).filter fun t => !hasE k t).head? = some t2 → Q (.ref r) H'
theorem head_mem {α : Type} {p : α → Bool} {l : List α} {x : α} (h : (l.filter p).head? = some x) : x ∈ l ∧ p x = true := List.mem_filter.mp (List.mem_of_head? h)
theorem telL_sorted {ns : List Int} {m : Int} {RO RC : List (Int × Int × Nat)} : (telL ns m RO RC).Pairwise fun s t => s.1.length ≤ t.1.length := by
  unfold telL
  refine List.pairwise_cons.mpr ⟨fun t _ => Nat.zero_le _, List.pairwise_append.mpr ⟨?_, ?_, ?_⟩⟩
  · refine List.pairwise_iff_getElem.mpr fun i j hi hj _ => ?_
    rw [List.getElem_map, List.getElem_map]
    exact Nat.le_refl 1
  · refine List.pairwise_iff_getElem.mpr fun i j hi hj _ => ?_
    rw [List.getElem_map, List.getElem_map]
    exact Nat.le_refl 2
  · intro s hs t ht
    obtain ⟨p, _, rfl⟩ := List.mem_map.mp hs
    obtain ⟨q, _, rfl⟩ := List.mem_map.mp ht
    exact (show 1 ≤ 2 by decide)
theorem head_least {l : List (List Int × List Nat)} {p : List Int × List Nat → Bool} {x : List Int × List Nat} (hs : l.Pairwise fun s t => s.1.length ≤ t.1.length) (h : (l.filter p).head? = some x) {y : List Int × List Nat} (hy : y ∈ l) (hp : p y = true) : x.1.length ≤ y.1.length := by
  have hs2 := hs.filter p
  have hym : y ∈ l.filter p := List.mem_filter.mpr ⟨hy, hp⟩
  match e : l.filter p, h, hs2, hym with
  | z :: r, h, hs2, hym =>
    obtain rfl : z = x := Option.some.inj h
    rcases List.mem_cons.mp hym with rfl | hym
    · exact Nat.le_refl _
    · exact (List.pairwise_cons.mp hs2).1 y hym
/-- the futures of at most two words that tell everything -/
def fewF (m : Int) (k : Nat) : List (List Int) := [] :: (List.range k).flatMap fun i : Nat => [[(1 : Int) + (i : Int)], [(1 : Int) + (i : Int), m]]
theorem fewF_succ {m : Int} {k : Nat} : fewF m (k + 1) = fewF m k ++ [[(1 : Int) + (k : Int)], [(1 : Int) + (k : Int), m]] := by
  unfold fewF
  rw [List.range_succ, List.flatMap_append, List.flatMap_singleton]
  rfl
theorem fewF_len {m : Int} : ∀ {k : Nat}, (fewF m k).length = 1 + 2 * k
  | 0 => rfl
  | k + 1 => by
    rw [fewF_succ, List.length_append, fewF_len]
    show 1 + 2 * k + 2 = _
    omega
theorem fewF_mem {m : Int} {f : List Int} : f ∈ fewF m m.toNat ↔ f = [] ∨ ∃ u, 1 ≤ u ∧ u ≤ m ∧ (f = [u] ∨ f = [u, m]) := by
  unfold fewF
  rw [List.mem_cons, List.mem_flatMap]
  constructor
  · rintro (h | ⟨i, hi, h⟩)
    · exact .inl h
    · have := List.mem_range.mp hi
      refine .inr ⟨1 + (i : Int), by omega, by omega, ?_⟩
      simpa using h
  · rintro (h | ⟨u, h1, h2, h⟩)
    · exact .inl h
    · refine .inr ⟨(u - 1).toNat, List.mem_range.mpr (by omega), ?_⟩
      rw [show (1 : Int) + (((u - 1).toNat : Nat) : Int) = u by omega]
      simpa using h
theorem fewF_words {m : Int} (hm : 1 ≤ m) {f : List Int} (h : f ∈ fewF m m.toNat) : f.length ≤ 2 ∧ ∀ x ∈ f, 1 ≤ x ∧ x ≤ m := by
  rcases fewF_mem.mp h with rfl | ⟨u, h1, h2, rfl | rfl⟩
  · exact ⟨Nat.zero_le _, fun _ z => nomatch z⟩
  · refine ⟨(by show 1 ≤ 2; decide), fun x hx => ?_⟩
    obtain rfl := List.mem_singleton.mp hx
    exact ⟨h1, h2⟩
  · refine ⟨Nat.le_refl 2, fun x hx => ?_⟩
    simp at hx
    omega
theorem tells_few {ns : List Int} {m : Int} (hF : Fit m ns) (hm : 1 ≤ m) : Tells ns m ((fewF m m.toNat).map (endsF ns m)) :=
  tells_of hF hm (fun f hf => (fewF_words hm hf).2) (fewF_mem.mpr (.inl rfl)) fun u h1 h2 => ⟨fewF_mem.mpr (.inr ⟨u, h1, h2, .inl rfl⟩), fewF_mem.mpr (.inr ⟨u, h1, h2, .inr rfl⟩)⟩
def spFew (K : PySem.W.Frag) : Sp := fun vs H Q _ => ∃ (m : Int), vs = [.int m] ∧ 1 ≤ m ∧ m ≤ 1000 ∧
  ∀ H' l rs, Same H H' → H l = none → H' l = some (.lst rs) → AllAt (RwAt K H') rs (fewF m m.toNat) → Q (.ref l) H'
/-- no few future is shorter than the first teller -/
theorem tel_least {ns : List Int} {m : Int} {RO RC : List (Int × Int × Nat)} {k : Nat} {v : Bool} {t f : List Int} {e : List Nat} (hF : Fit m ns) (hm : 1 ≤ m) (hO : RangesFor m (startO ns m) RO) (hC : RangesFor m (startC ns m) RC)
    (h : ((telL ns m RO RC).filter fun t => hasE k t == v).head? = some (t, e)) (hf : f ∈ fewF m m.toNat) (hk : decide (k ∈ endsF ns m f) = v) : t.length ≤ f.length := by
  have hl := fun {y} => head_least (y := y) (telL_sorted (ns := ns) (m := m) (RO := RO) (RC := RC)) h
  have hw := ((telL_ends hF hm hO hC).1 _ (head_mem h).1).2.1
  rcases fewF_mem.mp hf with rfl | ⟨u, h1, h2, rfl | rfl⟩
  · rw [endsF_nil hF] at hk
    exact hl (y := ([], blay ns m)) (List.mem_cons_self ..) (by unfold hasE; rw [hk]; exact beq_self_eq_true v)
  · obtain ⟨r, hr, _, _, h3⟩ := hO.cov.at_ u h1 h2
    rw [endsF_one hF h1 h2, h3] at hk
    exact hl (y := tlO ns m r) (List.mem_cons_of_mem _ (List.mem_append_left _ (List.mem_map.mpr ⟨r, hr, rfl⟩))) (by unfold hasE tlO; rw [hk]; exact beq_self_eq_true v)
  · exact hw
/-- whether the first future ends a line there and the second does not -/
def showsB (ns : List Int) (m : Int) (k : Nat) (f g : List Int) : Bool := decide (k ∈ endsF ns m f) && !decide (k ∈ endsF ns m g)
def spEndsLine (K : PySem.W.Frag) : Sp := fun vs H Q _ => ∃ (m : Int) (t r : Addr) (ns fs : List Int) (k : Nat), vs = [.int m, .ref t, natV k, .ref r] ∧ SqT K H t (ns.map V.int) ∧ SqT K H r (fs.map V.int) ∧ Fit m (ns ++ fs) ∧ 1 ≤ m ∧ m ≤ 1000000000 ∧ (ns ++ fs).length ≤ 1000 ∧ k ≤ ns.length ∧
  ∀ H', Same H H' → Q (.bl (decide (k ∈ endsF ns m fs))) H'
def spShows (K : PySem.W.Frag) : Sp := fun vs H Q _ => ∃ (p : Addr) (m : Int) (t v r s : Addr) (ns f g : List Int) (k : Nat), vs = [.int m, .ref t, natV k, .ref v] ∧ SqT K H t (ns.map V.int) ∧ SqT K H v [.ref r, .ref s] ∧ SqT K H r (f.map V.int) ∧ SqT K H s (g.map V.int) ∧ Fit m ns ∧ (∀ x ∈ f, 1 ≤ x ∧ x ≤ m) ∧ (∀ x ∈ g, 1 ≤ x ∧ x ≤ m) ∧ 1 ≤ m ∧ m ≤ 1000000000 ∧ ns.length ≤ 300 ∧ f.length ≤ 300 ∧ g.length ≤ 300 ∧ 1 ≤ k ∧ k ≤ ns.length ∧
  ∀ H', Same H H' → Q (.bl (showsB ns m k f g)) H'
theorem mem_endsF {ns fs : List Int} {m : Int} {k : Nat} (hk : k ≤ ns.length) : (k ∈ blay (ns ++ fs) m) ↔ k ∈ endsF ns m fs := by
  unfold endsF
  rw [List.mem_filter]
  exact ⟨fun h => ⟨h, decide_eq_true hk⟩, fun h => h.1⟩
end SL

set_option Elab.async false
set_option linter.all false
set_option maxRecDepth 100000
set_option maxHeartbeats 1000000
/-! Own layer 67: for the law of two futures. -/
namespace SL
open PySem PySem.Spec PyProof.Rows L2
def spRight24 : Sp := fun vs H Q _ => ∃ (p : Addr) (m k : Int) (n : Nat), vs = [.ref p, .int m, .int k] ∧ PotAt H p n ∧ n < 500000 ∧ 1 ≤ m ∧ m ≤ 40 ∧ 0 ≤ k ∧ k ≤ 15 ∧ ∀ H', Kp p H H' → PotAt H' p (n + 250) → Q (.bl true) H'
def knL (ns : List Int) (m : Int) (Fs : List (List Int)) : List (List Int × List Nat) := Fs.map fun f => (f, blay (ns ++ f) m)
theorem has_kn {ns f : List Int} {m : Int} {k : Nat} (hk : k ≤ ns.length) : hasE k (f, blay (ns ++ f) m) = decide (k ∈ endsF ns m f) := decide_eq_decide.mpr (mem_endsF hk)
theorem kn_none {ns : List Int} {m : Int} {Fs : List (List Int)} {k : Nat} (h : Tells ns m (Fs.map (endsF ns m))) (hk : k ≤ ns.length) : (knL ns m Fs).filter (hasE k) = [] ↔ InNone ns m k := by
  rw [← h.none]
  unfold cntE knL
  rw [List.countP_map, List.countP_eq_zero, List.filter_eq_nil_iff]
  constructor
  · intro z f hf
    have := z _ (List.mem_map.mpr ⟨f, hf, rfl⟩)
    rw [has_kn hk] at this
    exact this
  · intro z t ht
    obtain ⟨f, hf, rfl⟩ := List.mem_map.mp ht
    rw [has_kn hk]
    exact z f hf
theorem kn_every {ns : List Int} {m : Int} {Fs : List (List Int)} {k : Nat} (h : Tells ns m (Fs.map (endsF ns m))) (hk : k ≤ ns.length) : ((knL ns m Fs).filter fun t => !hasE k t) = [] ↔ InAll ns m k := by
  rw [← h.every]
  unfold cntE knL
  rw [List.countP_map, List.length_map, List.countP_eq_length, List.filter_eq_nil_iff]
  constructor
  · intro z f hf
    have := z _ (List.mem_map.mpr ⟨f, hf, rfl⟩)
    rw [has_kn hk] at this
    simpa using this
  · intro z t ht
    obtain ⟨f, hf, rfl⟩ := List.mem_map.mp ht
    rw [has_kn hk]
    have : decide (k ∈ endsF ns m f) = true := z f hf
    rw [this]
    decide
theorem tel_few {ns : List Int} {m : Int} {RO RC : List (Int × Int × Nat)} (hO : RangesFor m (startO ns m) RO) (hC : RangesFor m (startC ns m) RC) {t : List Int × List Nat} (ht : t ∈ telL ns m RO RC) : t.1 ∈ fewF m m.toNat := by
  rcases List.mem_cons.mp ht with rfl | ht
  · exact fewF_mem.mpr (.inl rfl)
  · rcases List.mem_append.mp ht with ht | ht
    · obtain ⟨p, hp, rfl⟩ := List.mem_map.mp ht
      obtain ⟨a1, a2, a3, _⟩ := hO.cov.mem p hp
      exact fewF_mem.mpr (.inr ⟨p.1, a1, by omega, .inl rfl⟩)
    · obtain ⟨p, hp, rfl⟩ := List.mem_map.mp ht
      obtain ⟨a1, a2, a3, _⟩ := hC.cov.mem p hp
      exact fewF_mem.mpr (.inr ⟨p.1, a1, by omega, .inr rfl⟩)
/-- the first teller is as short as the shortest of the few -/
theorem kn_min {ns : List Int} {m : Int} {RO RC : List (Int × Int × Nat)} {k : Nat} {v : Bool} {t : List Int × List Nat} (hF : Fit m ns) (hm : 1 ≤ m) (hk : k ≤ ns.length) (hO : RangesFor m (startO ns m) RO) (hC : RangesFor m (startC ns m) RC)
    (h : ((telL ns m RO RC).filter fun t => hasE k t == v).head? = some t) : t.1.length ∈ ((knL ns m (fewF m m.toNat)).filter fun t => hasE k t == v).map (fun t => t.1.length) ∧ (∀ y ∈ ((knL ns m (fewF m m.toNat)).filter fun t => hasE k t == v).map (fun t => t.1.length), t.1.length ≤ y) ∧ decide (k ∈ endsF ns m t.1) = v ∧ (∀ x ∈ t.1, 1 ≤ x ∧ x ≤ m) ∧ t.1.length ≤ 2 := by
  obtain ⟨h1, h2⟩ := head_mem h
  obtain ⟨w1, w2, w3⟩ := (telL_ends hF hm hO hC).1 _ h1
  have hv : decide (k ∈ endsF ns m t.1) = v := by
    rw [w3]
    exact beq_iff_eq.mp h2
  refine ⟨List.mem_map.mpr ⟨(t.1, blay (ns ++ t.1) m), List.mem_filter.mpr ⟨List.mem_map.mpr ⟨t.1, tel_few hO hC h1, rfl⟩, ?_⟩, rfl⟩, fun y hy => ?_, hv, w1, w2⟩
  · rw [has_kn hk, hv]
    exact beq_self_eq_true v
  · obtain ⟨q, hq, rfl⟩ := List.mem_map.mp hy
    obtain ⟨q1, q2⟩ := List.mem_filter.mp hq
    obtain ⟨f, hf, rfl⟩ := List.mem_map.mp q1
    rw [has_kn hk] at q2
    exact tel_least hF hm hO hC h hf (beq_iff_eq.mp q2)
theorem dp_natL {K : PySem.W.Frag} {H : Hp} {a : Addr} {es : List Nat} (h : SqL K H a (es.map natV)) : Dp K H (.ref a) (.list (es.map fun e : Nat => PyData.int (e : Int))) := .lst h (dp_nats es)
theorem shaped_natL (es : List Nat) : SeqAt.shaped (.list (es.map fun e : Nat => PyData.int (e : Int))) = true := by
  obtain ⟨a, b⟩ := can_ints es
  unfold SeqAt.shaped
  simp only [PyData.canLay0, PyData.depth, a, b]
  rfl
theorem eqv_natnil : ∀ es : List Nat, PyData.eqv (.list (es.map fun e : Nat => PyData.int (e : Int))) (.list []) = decide (es = [])
  | [] => by simp [PyData.eqv, PyData.eqvAll]
  | _ :: _ => by simp [PyData.eqv, PyData.eqvAll]
theorem inV_nat {k : Nat} {es : List Nat} : inV (natV k) (es.map natV) = decide (k ∈ es) := by
  unfold inV
  rw [Bool.eq_iff_iff, List.any_eq_true, decide_eq_true_eq]
  constructor
  · rintro ⟨x, hx, e⟩
    obtain ⟨y, hy, rfl⟩ := List.mem_map.mp hx
    have e := of_decide_eq_true e
    injection e with e
    have : y = k := by omega
    rwa [← this]
  · exact fun h => ⟨natV k, List.mem_map.mpr ⟨k, h, rfl⟩, decide_eq_true rfl⟩
theorem flat_nats (es : List Nat) : (es.map natV).all flatV = true := by
  rw [List.all_map]
  exact List.all_eq_true.mpr fun _ _ => rfl
theorem dqs_ints {K : PySem.W.Frag} {p : Addr} {H : Hp} : ∀ ns : List Int, DqAll K p H (ns.map V.int) (ns.map PyData.int)
  | [] => .nil
  | x :: ns => .cons (.int x) (dqs_ints ns)
end SL

set_option Elab.async false
set_option linter.all false
set_option maxRecDepth 100000
set_option maxHeartbeats 1000000
/-! Own layer 68: for the law of names: what is returned, as data; a value that is none. -/
namespace SL
open PySem PySem.Spec PyProof.Rows L2
def spShowsN (K : PySem.W.Frag) : Sp := fun vs H Q _ => ∃ (m : Int) (t : Addr) (ns : List Int) (k : Nat) (v : V), vs = [.int m, .ref t, natV k, v] ∧ SqT K H t (ns.map V.int) ∧ Fit m ns ∧ 1 ≤ m ∧ m ≤ 1000000000 ∧ ns.length ≤ 300 ∧ 1 ≤ k ∧ k ≤ ns.length ∧
  ((v = .non ∧ ∀ H', Same H H' → Q (.bl false) H') ∨ ∃ (p a r s : Addr) (f g : List Int), v = .ref a ∧ SqT K H a [.ref r, .ref s] ∧ SqT K H r (f.map V.int) ∧ SqT K H s (g.map V.int) ∧ (∀ x ∈ f, 1 ≤ x ∧ x ≤ m) ∧ (∀ x ∈ g, 1 ≤ x ∧ x ≤ m) ∧ f.length ≤ 300 ∧ g.length ≤ 300 ∧ ∀ H', Same H H' → Q (.bl (showsB ns m k f g)) H')
/-- what two_futures returns, as data -/
def twoD (t1 t2 : List Int × List Nat) : PyData := .tuple [.tuple (t1.1.map PyData.int), .tuple (t2.1.map PyData.int)]
theorem sm_word {m : Int} {f : List Int} (hm : m ≤ 1000000000) (h : ∀ x ∈ f, 1 ≤ x ∧ x ≤ m) (hl : f.length ≤ 2) : Sm (2 * 106 + 3) 1 (.tuple (f.map PyData.int)) := sm_row h hm hl
def dSt (ns : List Int) (m : Int) (f : List Int) (L : List Nat) (RC RO : List (Int × Int × Nat)) : List PyData := [.int (startF ns f m : Int), tupD L, .tuple (RC.map trD), .tuple (RO.map trD)]
theorem smA_st {ns f : List Int} {m : Int} {L : List Nat} {RC RO : List (Int × Int × Nat)} (hF : Fit m ns) (hf : ∀ x ∈ f, 1 ≤ x ∧ x ≤ m) (hf0 : f ≠ []) (hm : m ≤ 1000000000) (hl : ns.length ≤ 9) (hL : StartsL ns m L) (hO : RangesFor m (startO ns m) RO) (hC : RangesFor m (startC ns m) RC) :
    Sm 9000 3 (.list (dSt ns m f L RC RO)) := by
  obtain ⟨b1, b2⟩ := hL.bounds hF
  have hF2 : Fit m (ns ++ f) := fit_of fun y hy => by
    rcases List.mem_append.mp hy with hy | hy
    · exact fit_all hF y hy
    · exact hf y hy
  have h1 := startF_le hF2 hf0
  have s1 : Sm 104 0 (.int (startF ns f m : Int)) := Sm.int (by omega) (by omega)
  have s2 : Sm (10 * 106 + 3) 1 (tupD L) := sm_ends (fun e he => Nat.le_trans (b1 e he) (by omega)) (by omega)
  have s3 := hC.sm (N := 9) hm (by decide) (fun u a b => Nat.le_trans (startC_le hF a b) hl)
  have s4 := hO.sm (N := 9) hm (by decide) (fun u a b => Nat.le_trans (startO_le hF a b) hl)
  refine (SmA.list (SmA.consK s1 (by decide) (SmA.consK s2 (by decide) (SmA.consK s3 (Nat.le_refl 2) (SmA.consK s4 (Nat.le_refl 2) (SmA.nil (k := 2))))))).mono (by decide) (by decide)
theorem Sm.none : Sm 4 0 .none := ⟨rfl, Nat.zero_le _, Nat.le_refl _⟩
noncomputable def dSa (ns : List Int) (m : Int) (k e : Nat) (told : PyData) (b1 b2 : Bool) : List PyData := [.str (stS ns m k), .tuple ((stL ns m).map PyData.str), prsD (prs 0 (pathOf ns m e)), .int (e : Int), told, .bool b1, .bool b2]
theorem pathOf_len {ns : List Int} {m : Int} (hF : Fit m ns) {e : Nat} (he : e ≤ ns.length) : (pathOf ns m e).length ≤ e := by
  have := (pathOf_pth hF he).len fun k h1 h2 => (let ⟨_, _, _, h⟩ := begs_facts hF k h1 (by omega); h)
  exact this
theorem prs_le : ∀ {lo : Nat} {es : List Nat} {N : Nat}, lo ≤ N → (∀ x ∈ es, x ≤ N) → ∀ p ∈ prs lo es, p.1 ≤ N ∧ p.2 ≤ N
  | _, [], _, _, _, p, hp => nomatch hp
  | lo, e :: es, N, h, hx, p, hp => by
    rcases List.mem_cons.mp hp with rfl | hp
    · exact ⟨h, hx e (List.mem_cons_self ..)⟩
    · exact prs_le (hx e (List.mem_cons_self ..)) (fun x hm => hx x (List.mem_cons_of_mem _ hm)) p hp
theorem smA_sa {ns : List Int} {m : Int} {k e : Nat} {told : PyData} {b1 b2 : Bool} (hF : Fit m ns) (hl : ns.length ≤ 9) (he : e ≤ ns.length) (ht : Sm 500 2 told) : Sm 9000 3 (.list (dSa ns m k e told b1 b2)) := by
  have hp := pathOf_len hF he
  have s1 := sm_st ns m k
  have s2 := sm_sts (m := m) hl
  have s3 : Sm (9 * 217 + 3) 2 (prsD (prs 0 (pathOf ns m e))) := sm_pairs (fun p hp => by
    have := prs_le (N := 9) (Nat.zero_le _) (fun x hx => by have := (pathOf_le hF he hx).2; omega) p hp
    omega) (by rw [prs_len]; omega)
  have s4 : Sm 104 0 (.int (e : Int)) := Sm.int (by omega) (by omega)
  refine (SmA.list (SmA.consK s1 (by decide) (SmA.consK s2 (by decide) (SmA.consK s3 (Nat.le_refl 2) (SmA.consK s4 (by decide) (SmA.consK ht (Nat.le_refl 2) (SmA.consK (Sm.bool b1) (by decide) (SmA.consK (Sm.bool b2) (by decide) (SmA.nil (k := 2)))))))))).mono (by decide) (by decide)
theorem sm_two {m : Int} {t1 t2 : List Int × List Nat} (hm : m ≤ 1000000000) (h1 : ∀ x ∈ t1.1, 1 ≤ x ∧ x ≤ m) (h2 : ∀ x ∈ t2.1, 1 ≤ x ∧ x ≤ m) (l1 : t1.1.length ≤ 2) (l2 : t2.1.length ≤ 2) : Sm 500 2 (twoD t1 t2) :=
  (Sm.tuple (m := 2) (Sm.two (sm_word hm h1 l1) (sm_word hm h2 l2)) (Nat.le_refl _)).mono (by decide) (Nat.le_refl _)
def spStR (K : PySem.W.Frag) : Sp := fun vs H Q _ => ∃ (m : Int) (t r : Addr) (ns fs : List Int), vs = [.int m, .ref t, .ref r] ∧ SqT K H t (ns.map V.int) ∧ SqT K H r (fs.map V.int) ∧ (∀ x ∈ ns, 1 ≤ x ∧ x ≤ m) ∧ (∀ x ∈ fs, 1 ≤ x ∧ x ≤ m) ∧ fs ≠ [] ∧ fs.length ≤ 2 ∧ 1 ≤ m ∧ m ≤ 1000000000 ∧ ns.length ≤ 9 ∧ ∀ H', Same H H' → Q (.bl true) H'
def spSaR (K : PySem.W.Frag) : Sp := fun vs H Q _ => ∃ (m : Int) (t r : Addr) (ns fs : List Int) (k : Nat), vs = [.int m, .ref t, natV k, .ref r] ∧ SqT K H t (ns.map V.int) ∧ SqT K H r (fs.map V.int) ∧ (∀ x ∈ ns, 1 ≤ x ∧ x ≤ m) ∧ (∀ x ∈ fs, 1 ≤ x ∧ x ≤ m) ∧ fs ≠ [] ∧ fs.length ≤ 2 ∧ 1 ≤ m ∧ m ≤ 1000000000 ∧ ns.length ≤ 9 ∧ 1 ≤ k ∧ k ≤ ns.length ∧ ∀ H', Same H H' → Q (.bl true) H'
end SL

set_option Elab.async false
set_option linter.all false
set_option maxRecDepth 100000
set_option maxHeartbeats 1000000
/-! Own layer 69: what two_futures returns, in one. -/
namespace SL
open PySem PySem.Spec PyProof.Rows L2
def TwoV (K : PySem.W.Frag) (ns : List Int) (m : Int) (k : Nat) (H : Hp) (v : V) : Prop := (v = .non ∧ (InNone ns m k ∨ InAll ns m k)) ∨
  ∃ r a b t1 t2 RO RC, v = .ref r ∧ ¬ InNone ns m k ∧ ¬ InAll ns m k ∧ H r = some (.tup [.ref a, .ref b]) ∧ SqT K H a (t1.1.map V.int) ∧ SqT K H b (t2.1.map V.int) ∧ RangesFor m (startO ns m) RO ∧ RangesFor m (startC ns m) RC ∧
    ((telL ns m RO RC).filter (hasE k)).head? = some t1 ∧ ((telL ns m RO RC).filter fun t => !hasE k t).head? = some t2
def TwoD (ns : List Int) (m : Int) (k : Nat) (d : PyData) : Prop := (d = .none ∧ (InNone ns m k ∨ InAll ns m k)) ∨
  ∃ t1 t2 RO RC, ¬ InNone ns m k ∧ ¬ InAll ns m k ∧ RangesFor m (startO ns m) RO ∧ RangesFor m (startC ns m) RC ∧
    ((telL ns m RO RC).filter (hasE k)).head? = some t1 ∧ ((telL ns m RO RC).filter fun t => !hasE k t).head? = some t2 ∧ d = twoD t1 t2
theorem TwoD.uni {ns : List Int} {m : Int} {k : Nat} {d e : PyData} (h : TwoD ns m k d) (g : TwoD ns m k e) : d = e := by
  rcases h with ⟨rfl, h⟩ | ⟨t1, t2, RO, RC, n1, n2, hO, hC, h1, h2, rfl⟩ <;> rcases g with ⟨rfl, g⟩ | ⟨u1, u2, PO, PC, m1, m2, gO, gC, g1, g2, rfl⟩
  · rfl
  · rcases h with h | h
    · exact absurd h m1
    · exact absurd h m2
  · rcases g with g | g
    · exact absurd g n1
    · exact absurd g n2
  · obtain rfl := hO.uni gO
    obtain rfl := hC.uni gC
    rw [h1] at g1
    rw [h2] at g2
    rw [Option.some.inj g1, Option.some.inj g2]
theorem two_u {K : PySem.W.Frag} {ns : List Int} {m : Int} {k : Nat} {t : Addr} {H : Hp} {Q : VK} {E : XK} (hT : SqT K H t (ns.map V.int)) (hF : Fit m ns) (hm0 : 1 ≤ m) (hm1 : m ≤ 1000000000) (hn : ns.length ≤ 2000) (hk0 : 1 ≤ k) (hk1 : k ≤ ns.length)
    (h : ∀ H' v, Same H H' → TwoV K ns m k H' v → Q v H') : spTwo K [.int m, .ref t, natV k] H Q E :=
  ⟨m, t, ns, k, rfl, hT, hF, hm0, hm1, hn, hk0, hk1, fun H' s g => h H' _ s (.inl ⟨rfl, g⟩), fun H' r a b t1 t2 RO RC s n1 n2 e h1 h2 hO hC g1 g2 => h H' _ s (.inr ⟨r, a, b, t1, t2, RO, RC, rfl, n1, n2, e, h1, h2, hO, hC, g1, g2⟩)⟩
theorem head_words {ns : List Int} {m : Int} {RO RC : List (Int × Int × Nat)} {p : List Int × List Nat → Bool} {t : List Int × List Nat} (hF : Fit m ns) (hm : 1 ≤ m) (hO : RangesFor m (startO ns m) RO) (hC : RangesFor m (startC ns m) RC) (h : ((telL ns m RO RC).filter p).head? = some t) :
    (∀ x ∈ t.1, 1 ≤ x ∧ x ≤ m) ∧ t.1.length ≤ 2 := by
  obtain ⟨w1, w2, _⟩ := (telL_ends hF hm hO hC).1 _ (head_mem h).1
  exact ⟨w1, w2⟩
theorem TwoV.data {K : PySem.W.Frag} {ns : List Int} {m : Int} {k : Nat} {H : Hp} {v : V} (hF : Fit m ns) (hm0 : 1 ≤ m) (hm1 : m ≤ 1000000000) (h : TwoV K ns m k H v) : ∃ d, TwoD ns m k d ∧ Dp K H v d ∧ Sm 500 2 d := by
  rcases h with ⟨rfl, h⟩ | ⟨r, a, b, t1, t2, RO, RC, rfl, n1, n2, e, h1, h2, hO, hC, g1, g2⟩
  · exact ⟨.none, .inl ⟨rfl, h⟩, .non, Sm.none.mono (by decide) (by decide)⟩
  · obtain ⟨w1, w2⟩ := head_words hF hm0 hO hC g1
    obtain ⟨w3, w4⟩ := head_words hF hm0 hO hC g2
    exact ⟨twoD t1 t2, .inr ⟨t1, t2, RO, RC, n1, n2, hO, hC, g1, g2, rfl⟩, .tup (SqT.of e) (.cons (.tup h1 (dp_ints _)) (.cons (.tup h2 (dp_ints _)) .nil)), sm_two hm1 w1 w3 w2 w4⟩
theorem TwoV.shows {K : PySem.W.Frag} {ns : List Int} {m : Int} {k : Nat} {H : Hp} {v : V} (hF : Fit m ns) (hm0 : 1 ≤ m) (hm1 : m ≤ 1000000000) (hn : ns.length ≤ 300) (hk0 : 1 ≤ k) (hk1 : k ≤ ns.length) (h : TwoV K ns m k H v) :
    ∃ b : Bool, ∀ {t : Addr} {H' : Hp} {Q : VK} {E : XK}, Same H H' → SqT K H' t (ns.map V.int) → (∀ H2, Same H' H2 → Q (.bl b) H2) → spShowsN K [.int m, .ref t, natV k, v] H' Q E := by
  rcases h with ⟨rfl, h⟩ | ⟨r, a, b, t1, t2, RO, RC, rfl, n1, n2, e, h1, h2, hO, hC, g1, g2⟩
  · exact ⟨false, fun {t H' Q E} s hT q => ⟨m, t, ns, k, .non, rfl, hT, hF, hm0, hm1, hn, hk0, hk1, .inl ⟨rfl, q⟩⟩⟩
  · obtain ⟨w1, w2⟩ := head_words hF hm0 hO hC g1
    obtain ⟨w3, w4⟩ := head_words hF hm0 hO hC g2
    exact ⟨showsB ns m k t1.1 t2.1, fun {t H' Q E} s hT q => ⟨m, t, ns, k, _, rfl, hT, hF, hm0, hm1, hn, hk0, hk1, .inr ⟨0, r, a, b, t1.1, t2.1, rfl, SqT.of (s _ _ e), Same.tup s h1, Same.tup s h2, w1, w3, by omega, by omega, q⟩⟩⟩
theorem shows_pair {K : PySem.W.Frag} {ns f : List Int} {m : Int} {k : Nat} {t a r z : Addr} {H : Hp} {Q : VK} {E : XK} (hF : Fit m ns) (hm0 : 1 ≤ m) (hm1 : m ≤ 1000000000) (hn : ns.length ≤ 300) (hk0 : 1 ≤ k) (hk1 : k ≤ ns.length) (hT : SqT K H t (ns.map V.int)) (hA : SqT K H a [.ref r, .ref z]) (hR : SqT K H r (f.map V.int)) (hZ : SqT K H z []) (hf : ∀ x ∈ f, 1 ≤ x ∧ x ≤ m) (hl : f.length ≤ 300)
    (q : ∀ H', Same H H' → Q (.bl (showsB ns m k f [])) H') : spShowsN K [.int m, .ref t, natV k, .ref a] H Q E :=
  ⟨m, t, ns, k, _, rfl, hT, hF, hm0, hm1, hn, hk0, hk1, .inr ⟨0, a, r, z, f, [], rfl, hA, hR, hZ, hf, (fun _ z => nomatch z), hl, Nat.zero_le _, q⟩⟩
end SL

set_option Elab.async false
set_option linter.all false
set_option maxRecDepth 100000
set_option maxHeartbeats 1000000
/-! Own layer 70: behind a word of the width stands a text of its own. -/
namespace SL
open PySem PySem.Spec PyProof.Rows L2
/-- raised by c, moved by a -/
def shf (c : Int) (a : Nat) (q : Int × Nat) : Int × Nat := (c + q.1, a + q.2)
theorem fold_shf {c : Int} {a : Nat} : ∀ (rs : List (Int × Nat)) (z : Int), (rs.map (shf c a)).foldl stepL (c + z) = c + rs.foldl stepL z
  | [], _ => rfl
  | r :: rs, z => by
    rw [List.map_cons, List.foldl_cons, List.foldl_cons]
    have : stepL (c + z) (shf c a r) = c + stepL z r := by
      unfold stepL shf
      dsimp only
      split <;> split <;> omega
    rw [this, fold_shf]
theorem least_shf {c : Int} {a : Nat} : ∀ {rs : List (Int × Nat)}, rs ≠ [] → least (rs.map (shf c a)) = c + least rs
  | r :: rs, _ => fold_shf rs r.1
theorem cheap_shf {c : Int} {a : Nat} {rs : List (Int × Nat)} (h : rs ≠ []) : cheap (rs.map (shf c a)) = (cheap rs).map (a + ·) := by
  unfold cheap
  rw [least_shf h, List.filter_map, List.map_map, List.map_map]
  have : (fun r : Int × Nat => decide (r.1 = c + least rs)) ∘ shf c a = fun r => decide (r.1 = least rs) := funext fun r => decide_eq_decide.mpr (by show c + r.1 = c + least rs ↔ _; omega)
  rw [this]
  rfl
theorem hd_shf {c : Int} {a : Nat} {rs : List (Int × Nat)} (h : rs ≠ []) : hd (rs.map (shf c a)) = a + hd rs := by
  obtain ⟨x, hx, _, he⟩ := hd_mem h
  unfold hd
  rw [cheap_shf h]
  have hne : cheap rs ≠ [] := fun z => by
    have : x.2 ∈ cheap rs := List.mem_map.mpr ⟨x, List.mem_filter.mpr ⟨hx, decide_eq_true he⟩, rfl⟩
    rw [z] at this
    cases this
  match cheap rs, hne with
  | y :: r, _ => rfl
section
variable {R B : List Int} {m : Int}
/-- the text behind a word of the width -/
theorem wide_at (hF : Fit m ((R ++ [m]) ++ B)) {e : Nat} (he : e < B.length) : nsOf ((R ++ [m]) ++ B) (R.length + 1 + e) = nsOf B e := by
  unfold nsOf
  rw [List.getD_eq_getElem?_getD, List.getD_eq_getElem?_getD, List.getElem?_append_right (by simp)]
  congr 2
  simp
theorem wide_m : nsOf ((R ++ [m]) ++ B) R.length = m := by
  rw [nsOf_app (by simp), nsOf_end]
theorem wide_fit (hF : Fit m ((R ++ [m]) ++ B)) : Fit m B := fun b hb => by
  have := hF (R.length + 1 + b) (by simp; omega)
  rwa [wide_at hF hb] at this
theorem lines_wide (hF : Fit m ((R ++ [m]) ++ B)) : ∀ (e : Nat) (f : Int), e ≤ B.length → f ≤ m + 1 → (e = 0 → f ≤ m) → linesF (nsOf ((R ++ [m]) ++ B)) (R.length + 1 + e) f = (linesF (nsOf B) e f).map fun p => (R.length + 1 + p.1, p.2)
  | 0, f, _, _, h => by
    have h := h rfl
    show linesF _ (R.length + 1) f = []
    exact linesF_no (by rw [wide_m]; omega)
  | e + 1, f, he, hf, _ => by
    have hb := (wide_fit hF e (by omega)).1
    show linesF _ ((R.length + 1 + e) + 1) f = _
    by_cases h : nsOf B e < f
    · rw [linesF_yes (by rw [wide_at hF (by omega)]; exact h), linesF_yes h, wide_at hF (by omega), lines_wide hF e _ (by omega) (by omega) (fun _ => by omega)]
      rfl
    · rw [linesF_no (by rw [wide_at hF (by omega)]; exact h), linesF_no h]
      rfl
/-- what the words up to the word of the width cost -/
def frontC (R B : List Int) (m : Int) : Int := (cs (nsOf ((R ++ [m]) ++ B)) m (R.length + 1)).getD (R.length + 1) 0
theorem rate_wide (hF : Fit m ((R ++ [m]) ++ B)) {e : Nat} {f : Int} (he : e < B.length) (hc : ∀ k ≤ e, (cs (nsOf ((R ++ [m]) ++ B)) m (R.length + 1 + e)).getD (R.length + 1 + k) 0 = frontC R B m + (cs (nsOf B) m e).getD k 0) (hf : f ≤ m + 1) :
    rate (cs (nsOf ((R ++ [m]) ++ B)) m (R.length + 1 + e)) (linesF (nsOf ((R ++ [m]) ++ B)) (R.length + 1 + (e + 1)) f) = (rate (cs (nsOf B) m e) (linesF (nsOf B) (e + 1) f)).map (shf (frontC R B m) (R.length + 1)) := by
  rw [lines_wide hF (e + 1) f (by omega) hf (fun z => by omega)]
  unfold rate
  rw [List.map_map, List.map_map]
  refine List.map_congr_left fun p hp => ?_
  have hpl := (linesF_mem (fun b hb => by have := (wide_fit hF b (by omega)).1; omega) hp).1
  show ((cs _ m (R.length + 1 + e)).getD (R.length + 1 + p.1) 0 + p.2 ^ 2, R.length + 1 + p.1) = (frontC R B m + ((cs (nsOf B) m e).getD p.1 0 + p.2 ^ 2), R.length + 1 + p.1)
  rw [hc p.1 (by omega), Int.add_assoc]
theorem cs_wide (hF : Fit m ((R ++ [m]) ++ B)) : ∀ (e : Nat), e ≤ B.length → ∀ k ≤ e, (cs (nsOf ((R ++ [m]) ++ B)) m (R.length + 1 + e)).getD (R.length + 1 + k) 0 = frontC R B m + (cs (nsOf B) m e).getD k 0
  | 0, _, k, hk => by
    obtain rfl : k = 0 := by omega
    show _ = frontC R B m + 0
    rw [Int.add_zero]
    rfl
  | e + 1, he, k, hk => by
    have ih := cs_wide hF e (by omega)
    by_cases h : k ≤ e
    · rw [cs_pre (m := R.length + 1 + e) (by omega) (by omega), ih k h, cs_pre (n := e + 1) (m := e) h (by omega)]
    · obtain rfl : k = e + 1 := by omega
      have hL1 : nsOf B e < m + 1 := by have := (wide_fit hF e (by omega)).2; omega
      have hne : rate (cs (nsOf B) m e) (linesF (nsOf B) (e + 1) (m + 1)) ≠ [] := fun z => linesF_ne hL1 (rate_nil.mp z)
      have e1 : (cs (nsOf ((R ++ [m]) ++ B)) m (R.length + 1 + (e + 1))).getD (R.length + 1 + (e + 1)) 0 = least (rate (cs (nsOf ((R ++ [m]) ++ B)) m (R.length + 1 + e)) (linesF (nsOf ((R ++ [m]) ++ B)) (R.length + 1 + (e + 1)) (m + 1))) := cs_at (Nat.le_refl _)
      have e2 : (cs (nsOf B) m (e + 1)).getD (e + 1) 0 = least (rate (cs (nsOf B) m e) (linesF (nsOf B) (e + 1) (m + 1))) := cs_at (Nat.le_refl _)
      rw [e1, e2, rate_wide hF (by omega) ih (Int.le_refl _), least_shf hne]
theorem fB_wide (hF : Fit m ((R ++ [m]) ++ B)) {e : Nat} (he : e < B.length) : fB (nsOf ((R ++ [m]) ++ B)) m (R.length + 1 + (e + 1)) = R.length + 1 + fB (nsOf B) m (e + 1) := by
  have hL1 : nsOf B e < m + 1 := by have := (wide_fit hF e (by omega)).2; omega
  have hne : rate (cs (nsOf B) m e) (linesF (nsOf B) (e + 1) (m + 1)) ≠ [] := fun z => linesF_ne hL1 (rate_nil.mp z)
  show hd (rate (cs (nsOf ((R ++ [m]) ++ B)) m (R.length + 1 + e)) (linesF (nsOf ((R ++ [m]) ++ B)) (R.length + 1 + (e + 1)) (m + 1))) = R.length + 1 + hd (rate (cs (nsOf B) m e) (linesF (nsOf B) (e + 1) (m + 1)))
  rw [rate_wide hF he (cs_wide hF e (by omega)) (Int.le_refl _), hd_shf hne]
theorem lB_wide2 (hF : Fit m ((R ++ [m]) ++ B)) (h0 : 0 < B.length) : lB ((R ++ [m]) ++ B) m = R.length + 1 + lB B m := by
  obtain ⟨e, he⟩ : ∃ e, B.length = e + 1 := ⟨B.length - 1, by omega⟩
  have hL1 : nsOf B e < m + 1 := by have := (wide_fit hF e (by omega)).2; omega
  have hne : rate0 (cs (nsOf B) m B.length) (linesF (nsOf B) B.length (m + 1)) ≠ [] := fun z => by
    rw [he] at z
    exact linesF_ne hL1 (rate0_nil.mp z)
  have el : ((R ++ [m]) ++ B).length = R.length + 1 + B.length := by simp; omega
  unfold lB
  rw [el, lines_wide hF B.length (m + 1) (Nat.le_refl _) (Int.le_refl _) (fun z => by omega)]
  have : rate0 (cs (nsOf ((R ++ [m]) ++ B)) m (R.length + 1 + B.length)) ((linesF (nsOf B) B.length (m + 1)).map fun p => (R.length + 1 + p.1, p.2)) = (rate0 (cs (nsOf B) m B.length) (linesF (nsOf B) B.length (m + 1))).map (shf (frontC R B m) (R.length + 1)) := by
    unfold rate0
    rw [List.map_map, List.map_map]
    refine List.map_congr_left fun p hp => ?_
    have hpl := (linesF_mem (fun b hb => by have := (wide_fit hF b (by omega)).1; omega) hp).1
    show ((cs _ m (R.length + 1 + B.length)).getD (R.length + 1 + p.1) 0, R.length + 1 + p.1) = (frontC R B m + (cs (nsOf B) m B.length).getD p.1 0, R.length + 1 + p.1)
    rw [cs_wide hF B.length (Nat.le_refl _) p.1 (by omega)]
  rw [this, hd_shf hne]
/-! ### layouts -/
theorem pathOf_pre {ns fs : List Int} {m : Int} (hF : Fit m (ns ++ fs)) {e : Nat} (he : e ≤ ns.length) : pathOf (ns ++ fs) m e = pathOf ns m e := by
  have hp := pathOf_pth hF (e := e) (by rw [List.length_append]; omega)
  obtain ⟨s, p, h1, h2, _, h4⟩ := hp.cut hF (by rw [List.length_append]; omega)
  rcases h4 with ⟨_, rfl, h5⟩ | ⟨e2, h5, h6, _⟩
  · rw [h5, pathOf_uni (fit_left hF) h1 h2]
  · omega
theorem fB_own (hF : Fit m ((R ++ [m]) ++ B)) : fB (nsOf ((R ++ [m]) ++ B)) m (R.length + 1) = R.length := by
  show hd (rate (cs _ m R.length) (linesF _ (R.length + 1) (m + 1))) = _
  have hN : ∀ b, b < R.length → 0 ≤ nsOf ((R ++ [m]) ++ B) b := fun b hb => by have := (hF b (by simp; omega)).1; omega
  rw [linesF_yes (by rw [wide_m]; omega), wide_m]
  have : linesF (nsOf ((R ++ [m]) ++ B)) R.length (m + 1 - (m + 1)) = [] := by
    match R, hN with
    | [], _ => rfl
    | x :: R', hN =>
      have := hN R'.length (by simp)
      exact linesF_no (by omega)
  rw [this]
  exact hd_one _
/-- the ends up to the word of the width -/
def frontP (R : List Int) (m : Int) : List Nat := pathOf R m R.length ++ [R.length + 1]
theorem path_front (hF : Fit m ((R ++ [m]) ++ B)) : pathOf ((R ++ [m]) ++ B) m (R.length + 1) = frontP R m := by
  have hF1 : Fit m (R ++ ([m] ++ B)) := by rw [← List.append_assoc]; exact hF
  rw [pathOf_succ hF (by omega) (by simp), fB_own hF]
  unfold frontP
  rw [List.append_assoc, pathOf_pre hF1 (Nat.le_refl _)]
theorem path_wide (hF : Fit m ((R ++ [m]) ++ B)) {e : Nat} (he : e ≤ B.length) : pathOf ((R ++ [m]) ++ B) m (R.length + 1 + e) = frontP R m ++ (pathOf B m e).map (R.length + 1 + ·) := by
  induction e using Nat.strongRecOn with
  | ind e ih =>
    match e, ih, he with
    | 0, _, _ => rw [path_front hF, pathOf_zero]; simp
    | e + 1, ih, he =>
      have hFB := wide_fit hF
      have hlt := fB_lt' hFB (show 1 ≤ e + 1 by omega) he
      rw [pathOf_succ hF (by omega) (by simp; omega), fB_wide hF (by omega), ih _ hlt (by omega), pathOf_succ hFB (e := e + 1) (by omega) he]
      simp
theorem blay_wide (hF : Fit m ((R ++ [m]) ++ B)) : blay ((R ++ [m]) ++ B) m = frontP R m ++ (blay B m).map (R.length + 1 + ·) := by
  have hFB := wide_fit hF
  by_cases h : B = []
  · subst h
    have hF0 : Fit m (R ++ [m]) := by rw [List.append_nil] at hF; exact hF
    have hF1 := fit_left (ns := R) (fs := [m]) hF0
    rw [List.append_nil]
    unfold blay frontP
    rw [if_neg (by simp), lB_wide hF0, pathOf_pre hF0 (Nat.le_refl _)]
    simp
  · have h0 := List.length_pos_iff.mpr h
    have hl := lB_line hFB h0
    unfold blay
    rw [if_neg (by simp), if_neg h, lB_wide2 hF h0, path_wide hF (by omega), List.map_append, ← List.append_assoc]
    simp
    omega
/-! ### starts, states, settled lines -/
theorem start_wide2 (hF : Fit m ((R ++ [m]) ++ B)) {u : Int} (h1 : 1 ≤ u) (h2 : u ≤ m) : startC ((R ++ [m]) ++ B) m u = R.length + 1 + startC B m u ∧ startO ((R ++ [m]) ++ B) m u = R.length + 1 + startO B m u := by
  have hF2 := fit_push hF h1 h2
  have hF3 : Fit m ((R ++ [m]) ++ (B ++ [u])) := by rw [← List.append_assoc]; exact hF2
  refine ⟨?_, ?_⟩
  · unfold startC
    rw [List.append_assoc, show ((R ++ [m]) ++ B).length + 1 = R.length + 1 + (B.length + 1) by simp; omega]
    exact fB_wide hF3 (by simp)
  · unfold startO
    rw [List.append_assoc]
    exact lB_wide2 hF3 (by simp)
theorem startAt_wide (hF : Fit m ((R ++ [m]) ++ B)) {b : Nat} : StartAt ((R ++ [m]) ++ B) m b ↔ ∃ b', b = R.length + 1 + b' ∧ StartAt B m b' := by
  constructor
  · rintro ⟨u, h1, h2, rfl | rfl⟩
    · exact ⟨_, (start_wide2 hF h1 h2).1, u, h1, h2, .inl rfl⟩
    · exact ⟨_, (start_wide2 hF h1 h2).2, u, h1, h2, .inr rfl⟩
  · rintro ⟨b', rfl, u, h1, h2, rfl | rfl⟩
    · exact ⟨u, h1, h2, .inl (start_wide2 hF h1 h2).1.symm⟩
    · exact ⟨u, h1, h2, .inr (start_wide2 hF h1 h2).2.symm⟩
theorem front_mem (hF : Fit m ((R ++ [m]) ++ B)) {k : Nat} (h : k ∈ frontP R m) : 1 ≤ k ∧ k ≤ R.length + 1 := by
  have hF1 : Fit m (R ++ ([m] ++ B)) := by rw [← List.append_assoc]; exact hF
  rcases List.mem_append.mp h with h | h
  · have := pathOf_le (fit_left hF1) (Nat.le_refl _) h
    omega
  · obtain rfl := List.mem_singleton.mp h
    omega
theorem front_end : R.length + 1 ∈ frontP R m := List.mem_append_right _ (List.mem_singleton.mpr rfl)
theorem mem_wide (hF : Fit m ((R ++ [m]) ++ B)) {L : List Nat} (hL : ∀ x ∈ L, 0 < x) {k : Nat} : (k ≤ R.length + 1 → (k ∈ frontP R m ++ L.map (R.length + 1 + ·) ↔ k ∈ frontP R m)) ∧ ∀ j, 0 < j → (R.length + 1 + j ∈ frontP R m ++ L.map (R.length + 1 + ·) ↔ j ∈ L) := by
  constructor
  · intro hk
    rw [List.mem_append]
    constructor
    · rintro (h | h)
      · exact h
      · obtain ⟨x, hx, e⟩ := List.mem_map.mp h
        have := hL x hx
        have e : R.length + 1 + x = k := e
        omega
    · exact .inl
  · intro j hj
    rw [List.mem_append]
    constructor
    · rintro (h | h)
      · have := (front_mem hF h).2
        omega
      · obtain ⟨x, hx, e⟩ := List.mem_map.mp h
        have e : R.length + 1 + x = R.length + 1 + j := e
        have : x = j := by omega
        rwa [← this]
    · exact fun h => .inr (List.mem_map.mpr ⟨j, h, rfl⟩)
theorem blay_pos {ns : List Int} {m : Int} (hF : Fit m ns) : ∀ x ∈ blay ns m, 0 < x := fun x hx => (blay_char hF).1.1.asc.2 x hx
theorem st_wide (hF : Fit m ((R ++ [m]) ++ B)) (hm : 1 ≤ m) : (∀ k ≤ R.length + 1, stS ((R ++ [m]) ++ B) m k = (if k ∈ frontP R m then ("always" : Str) else ("never" : Str))) ∧ ∀ j, 0 < j → stS ((R ++ [m]) ++ B) m (R.length + 1 + j) = stS B m j := by
  have hFB := wide_fit hF
  have hp : ∀ b, StartAt B m b → ∀ x ∈ pathOf B m b, 0 < x := fun b hb x hx => (pathOf_le hFB (hb.le hFB) hx).1
  have hsome := start_end hFB hm
  constructor
  · intro k hk
    have e1 := (mem_wide hF (blay_pos hFB) (k := k)).1 hk
    by_cases h : k ∈ frontP R m
    · rw [if_pos h]
      have hA : InAll ((R ++ [m]) ++ B) m k := ⟨by rw [blay_wide hF]; exact e1.mpr h, fun b hb => by
        obtain ⟨b', rfl, hb'⟩ := (startAt_wide hF).mp hb
        rw [path_wide hF (hb'.le hFB)]
        exact List.mem_append_left _ h⟩
      have hN : ¬ InNone ((R ++ [m]) ++ B) m k := fun z => z.1 hA.1
      unfold stS
      rw [if_neg hN, if_pos hA]
    · rw [if_neg h]
      have hN : InNone ((R ++ [m]) ++ B) m k := ⟨by rw [blay_wide hF]; exact fun z => h (e1.mp z), fun b hb => by
        obtain ⟨b', rfl, hb'⟩ := (startAt_wide hF).mp hb
        rw [path_wide hF (hb'.le hFB)]
        exact fun z => h (((mem_wide hF (hp b' hb') (k := k)).1 hk).mp z)⟩
      unfold stS
      rw [if_pos hN]
  · intro j hj
    have e1 := (mem_wide hF (blay_pos hFB) (k := 0)).2 j hj
    have e2 : ∀ b', StartAt B m b' → (R.length + 1 + j ∈ pathOf ((R ++ [m]) ++ B) m (R.length + 1 + b') ↔ j ∈ pathOf B m b') := fun b' hb' => by
      rw [path_wide hF (hb'.le hFB)]
      exact (mem_wide hF (hp b' hb') (k := 0)).2 j hj
    have hA : InAll ((R ++ [m]) ++ B) m (R.length + 1 + j) ↔ InAll B m j := by
      unfold InAll
      rw [blay_wide hF, e1]
      refine and_congr_right fun _ => ?_
      constructor
      · intro h b' hb'
        exact (e2 b' hb').mp (h _ ((startAt_wide hF).mpr ⟨b', rfl, hb'⟩))
      · intro h b hb
        obtain ⟨b', rfl, hb'⟩ := (startAt_wide hF).mp hb
        exact (e2 b' hb').mpr (h b' hb')
    have hN : InNone ((R ++ [m]) ++ B) m (R.length + 1 + j) ↔ InNone B m j := by
      unfold InNone
      rw [blay_wide hF, e1]
      refine and_congr_right fun _ => ?_
      constructor
      · intro h b' hb' z
        exact h _ ((startAt_wide hF).mpr ⟨b', rfl, hb'⟩) ((e2 b' hb').mpr z)
      · intro h b hb z
        obtain ⟨b', rfl, hb'⟩ := (startAt_wide hF).mp hb
        exact h b' hb' ((e2 b' hb').mp z)
    unfold stS
    by_cases z : InNone B m j
    · rw [if_pos z, if_pos (hN.mpr z)]
    · rw [if_neg z, if_neg (fun q => z (hN.mp q))]
      by_cases y : InAll B m j
      · rw [if_pos y, if_pos (hA.mpr y)]
      · rw [if_neg y, if_neg (fun q => y (hA.mp q))]
/-- the states up to the word of the width -/
def frontS (R : List Int) (m : Int) : List Str := (List.range (R.length + 1)).map fun i => if i + 1 ∈ frontP R m then ("always" : Str) else ("never" : Str)
theorem frontS_len : (frontS R m).length = R.length + 1 := by
  unfold frontS
  rw [List.length_map, List.length_range]
theorem stL_wide (hF : Fit m ((R ++ [m]) ++ B)) (hm : 1 ≤ m) : stL ((R ++ [m]) ++ B) m = frontS R m ++ stL B m := by
  obtain ⟨h1, h2⟩ := st_wide hF hm
  have el : ((R ++ [m]) ++ B).length = R.length + 1 + B.length := by simp; omega
  refine List.ext_getElem? fun i => ?_
  by_cases hi : i < R.length + 1
  · rw [stL_at (by omega), List.getElem?_append_left (by rw [frontS_len]; exact hi), h1 _ (by omega)]
    unfold frontS
    rw [List.getElem?_map, List.getElem?_range hi]
    rfl
  · rw [List.getElem?_append_right (by rw [frontS_len]; omega), frontS_len]
    by_cases hj : i < R.length + 1 + B.length
    · rw [stL_at (by omega), stL_at (by omega)]
      have := h2 (i - (R.length + 1) + 1) (by omega)
      rw [← this]
      congr 2
      omega
    · rw [List.getElem?_eq_none (by rw [stL_len]; omega), List.getElem?_eq_none (by rw [stL_len]; omega)]
theorem starts_wide (hF : Fit m ((R ++ [m]) ++ B)) {L : List Nat} (h : StartsL B m L) : StartsL ((R ++ [m]) ++ B) m (L.map (R.length + 1 + ·)) := by
  refine ⟨?_, fun b => ?_⟩
  · exact List.pairwise_map.mpr (h.pw.imp fun {x y} z => by show R.length + 1 + x < R.length + 1 + y; omega)
  · rw [startAt_wide hF, List.mem_map]
    constructor
    · rintro ⟨x, hx, e⟩
      exact ⟨x, e.symm, (h.mem x).mp hx⟩
    · rintro ⟨x, e, hx⟩
      exact ⟨x, (h.mem x).mpr hx, e.symm⟩
theorem setEnd_wide (hF : Fit m ((R ++ [m]) ++ B)) {e : Nat} (h : SetEnd B m e) (he : e ≤ B.length) : SetEnd ((R ++ [m]) ++ B) m (R.length + 1 + e) := by
  have hFB := wide_fit hF
  refine ⟨fun s hs => ?_, fun x hx => ?_⟩
  · obtain ⟨s', rfl, hs'⟩ := (startAt_wide hF).mp hs
    refine .inr ?_
    rw [path_wide hF (hs'.le hFB)]
    by_cases h0 : e = 0
    · subst h0
      exact List.mem_append_left _ front_end
    · refine List.mem_append_right _ (List.mem_map.mpr ⟨e, ?_, rfl⟩)
      rcases h.com s' hs' with z | z
      · exact absurd z h0
      · exact z
  · by_cases hx1 : x ≤ R.length + 1
    · omega
    · obtain ⟨j, rfl⟩ : ∃ j, x = R.length + 1 + j := ⟨x - (R.length + 1), by omega⟩
      have : j ≤ e := h.top j fun s' hs' => by
        rcases hx _ ((startAt_wide hF).mpr ⟨s', rfl, hs'⟩) with z | z
        · omega
        · rw [path_wide hF (hs'.le hFB)] at z
          exact .inr (((mem_wide hF (fun y hy => (pathOf_le hFB (hs'.le hFB) hy).1) (k := 0)).2 j (by omega)).mp z)
      omega
theorem prs_wide (hF : Fit m ((R ++ [m]) ++ B)) {e : Nat} (he : e ≤ B.length) : prs 0 (pathOf ((R ++ [m]) ++ B) m (R.length + 1 + e)) = prs 0 (frontP R m) ++ (prs 0 (pathOf B m e)).map fun p => (R.length + 1 + p.1, R.length + 1 + p.2) := by
  rw [path_wide hF he, prs_app]
  congr 1
  have : (frontP R m).getLast?.getD 0 = R.length + 1 + 0 := by
    unfold frontP
    rw [List.getLast?_concat]
    rfl
  rw [this]
  exact prs_map (R.length + 1 + ·) 0 _
end
/-- nothing stands behind nothing -/
theorem starts_nil {m : Int} (hm : 1 ≤ m) : StartsL [] m [0] := by
  refine ⟨List.pairwise_singleton _ _, fun b => ?_⟩
  have hF : Fit m [] := fit_of fun _ z => nomatch z
  rw [List.mem_singleton]
  constructor
  · rintro rfl
    exact start_end hF hm
  · intro h
    have := h.le hF
    simpa using this
theorem setEnd_nil {m : Int} (hm : 1 ≤ m) : SetEnd [] m 0 := ⟨fun _ _ => .inl rfl, fun x hx => by
  have hF : Fit m [] := fit_of fun _ z => nomatch z
  have := (hx 0 (start_end hF hm)).le hF (Nat.le_refl _)
  omega⟩
end SL

set_option Elab.async false
set_option linter.all false
set_option maxRecDepth 100000
set_option maxHeartbeats 1000000
/-! Own layer 71: the text that ends with a word of the width; data compared. -/
namespace SL
open PySem PySem.Spec PyProof.Rows L2
section
variable {R : List Int} {m : Int}
theorem fit_nilr (hF : Fit m (R ++ [m])) : Fit m ((R ++ [m]) ++ []) := by rw [List.append_nil]; exact hF
theorem stL_front (hF : Fit m (R ++ [m])) (hm : 1 ≤ m) : stL (R ++ [m]) m = frontS R m := by
  have := stL_wide (fit_nilr hF) hm
  rw [List.append_nil] at this
  rw [this, show stL [] m = [] from rfl, List.append_nil]
theorem starts_front (hF : Fit m (R ++ [m])) (hm : 1 ≤ m) : StartsL (R ++ [m]) m [R.length + 1] := by
  have := starts_wide (fit_nilr hF) (starts_nil hm)
  rw [List.append_nil] at this
  exact this
theorem setEnd_front (hF : Fit m (R ++ [m])) (hm : 1 ≤ m) : SetEnd (R ++ [m]) m (R.length + 1) := by
  have := setEnd_wide (fit_nilr hF) (setEnd_nil hm) (Nat.le_refl _)
  rw [List.append_nil] at this
  exact this
theorem path_front1 (hF : Fit m (R ++ [m])) : pathOf (R ++ [m]) m (R.length + 1) = frontP R m := by
  have := path_front (fit_nilr hF)
  rw [List.append_nil] at this
  exact this
end
theorem eqv_strs : ∀ xs : List Str, PyData.eqvAll (xs.map PyData.str) (xs.map PyData.str) = true
  | [] => by simp [PyData.eqvAll]
  | x :: xs => by simp [PyData.eqvAll, PyData.eqv, eqv_strs xs]
theorem eqv_strsT (xs : List Str) : PyData.eqv (.tuple (xs.map PyData.str)) (.tuple (xs.map PyData.str)) = true := by
  simp only [PyData.eqv]
  exact eqv_strs xs
theorem eqv_prs : ∀ ps : List (Nat × Nat), PyData.eqvAll (ps.map prD) (ps.map prD) = true
  | [] => by simp [PyData.eqvAll]
  | p :: ps => by simp [PyData.eqvAll, PyData.eqv, prD, eqv_prs ps]
theorem eqv_prsD (ps : List (Nat × Nat)) : PyData.eqv (prsD ps) (prsD ps) = true := by
  unfold prsD
  simp only [PyData.eqv]
  exact eqv_prs ps
theorem can_strs : ∀ xs : List Str, (∀ x ∈ xs, (PyData.str x).canLay0 = true) → PyData.canLayAll0 (xs.map PyData.str) = true ∧ PyData.depthAll (xs.map PyData.str) = 0
  | [], _ => ⟨rfl, rfl⟩
  | x :: xs, h => by
    obtain ⟨a, b⟩ := can_strs xs fun y hy => h y (List.mem_cons_of_mem _ hy)
    refine ⟨?_, ?_⟩
    · show (PyData.canLay0 (.str x) && PyData.canLayAll0 (xs.map PyData.str)) = true
      rw [a, h x (List.mem_cons_self ..)]
      rfl
    · simp [PyData.depthAll, PyData.depth, b]
theorem shaped_strs (xs : List Str) (h : ∀ x ∈ xs, (PyData.str x).canLay0 = true) : SeqAt.shaped (.tuple (xs.map PyData.str)) = true := by
  obtain ⟨a, b⟩ := can_strs xs h
  unfold SeqAt.shaped
  simp only [PyData.canLay0, PyData.depth, a, b]
  rfl
theorem can_st (ns : List Int) (m : Int) (k : Nat) : (PyData.str (stS ns m k)).canLay0 = true := by
  unfold stS
  split
  · decide +kernel
  · split
    · decide +kernel
    · decide +kernel
theorem shaped_stL (ns : List Int) (m : Int) : SeqAt.shaped (.tuple ((stL ns m).map PyData.str)) = true := shaped_strs _ fun x hx => by
  unfold stL at hx
  obtain ⟨i, _, rfl⟩ := List.mem_map.mp hx
  exact can_st ns m _
theorem can_prs : ∀ ps : List (Nat × Nat), PyData.canLayAll0 (ps.map prD) = true ∧ PyData.depthAll (ps.map prD) ≤ 1
  | [] => ⟨rfl, Nat.zero_le _⟩
  | p :: ps => by
    obtain ⟨a, b⟩ := can_prs ps
    refine ⟨?_, ?_⟩
    · show (PyData.canLay0 (prD p) && PyData.canLayAll0 (ps.map prD)) = true
      rw [a]
      rfl
    · simp only [List.map_cons, PyData.depthAll, prD, PyData.depth]
      omega
theorem shaped_prs2 (ps : List (Nat × Nat)) : SeqAt.shaped (prsD ps) = true := by
  obtain ⟨a, b⟩ := can_prs ps
  unfold SeqAt.shaped prsD
  simp only [PyData.canLay0, PyData.depth, a, Bool.true_and]
  exact decide_eq_true (by omega)
theorem frontS_at {R : List Int} {m : Int} {i : Nat} (h : i < R.length + 1) : (frontS R m)[i]? = some (if i + 1 ∈ frontP R m then ("always" : Str) else ("never" : Str)) := by
  unfold frontS
  rw [List.getElem?_map, List.getElem?_range h]
  rfl
theorem PrAt.lst {H : Hp} {l : Addr} {ys : List V} {o : HO} (hl : H l = some (.lst ys)) : ∀ a p, PrAt H a p → PrAt (upd H l o) a p := fun _ _ h => tup_stay hl h
def spRight81 : Sp := fun vs H Q _ => ∃ (p : Addr) (m : Int) (n : Nat), vs = [.ref p, .int m] ∧ PotAt H p n ∧ n < 500000 ∧ 1 ≤ m ∧ m ≤ 1000000000 ∧ ∀ H', Kp p H H' → PotAt H' p (n + 500) → Q (.bl true) H'
end SL

set_option Elab.async false
set_option linter.all false
set_option maxRecDepth 100000
set_option maxHeartbeats 1000000
/-! Own layer 72: a finer measure: starts, states and settled lines. -/
namespace SL
open PySem PySem.Spec PyProof.Rows L2
section
variable {F : Int} {ns : List Int} {m : Int}
theorem path_scl (hF : 1 ≤ F) (h : Fit m ns) {e : Nat} (he : e ≤ ns.length) : pathOf (ns.map (scl F)) (scl F m) e = pathOf ns m e := by
  induction e using Nat.strongRecOn with
  | ind e ih =>
    by_cases h0 : e = 0
    · subst h0
      rw [pathOf_zero, pathOf_zero]
    · have hlt := fB_lt' h (show 1 ≤ e by omega) he
      rw [pathOf_succ h (by omega) he, pathOf_succ (fit_scl hF h) (by omega) (by rw [List.length_map]; exact he), fB_scl hF he, ih _ hlt (by omega)]
theorem blay_scl (hF : 1 ≤ F) (h : Fit m ns) : blay (ns.map (scl F)) (scl F m) = blay ns m := by
  unfold blay
  by_cases h0 : ns = []
  · subst h0
    rfl
  · have hl := lB_line h (List.length_pos_iff.mpr h0)
    rw [if_neg h0, if_neg (by simp [h0]), lB_scl hF, path_scl hF h (by omega), List.length_map]
theorem csN_scl (hF : 1 ≤ F) (k : Nat) : (cs (nsOf (ns.map (scl F))) (scl F m) (ns.map (scl F)).length).getD k 0 = F ^ 2 * (cs (nsOf ns) m ns.length).getD k 0 := by
  rw [List.length_map, cs_scl hF (Nat.le_refl _), getD_scl]
theorem scl_one (hF : 1 ≤ F) {a : Int} (h : 1 ≤ a) : 1 ≤ scl F a := by
  have := (scl_le hF).mpr h
  unfold scl at this ⊢
  omega
theorem start_scl (hF : 1 ≤ F) (h : Fit m ns) {b : Nat} (hb : StartAt ns m b) : StartAt (ns.map (scl F)) (scl F m) b := by
  obtain ⟨u, h1, h2, h3⟩ := hb
  refine ⟨scl F u, scl_one hF h1, (scl_le hF).mpr h2, ?_⟩
  have e : ns.map (scl F) ++ [scl F u] = (ns ++ [u]).map (scl F) := by rw [List.map_append]; rfl
  have ec : startC (ns.map (scl F)) (scl F m) (scl F u) = startC ns m u := by
    unfold startC
    rw [e, List.length_map]
    exact fB_scl hF (by simp)
  have eo : startO (ns.map (scl F)) (scl F m) (scl F u) = startO ns m u := by
    unfold startO
    rw [e, lB_scl hF]
  rw [ec, eo]
  exact h3
theorem all_scl (hF : 1 ≤ F) (h : Fit m ns) {k : Nat} (a : InAll (ns.map (scl F)) (scl F m) k) : InAll ns m k := by
  refine ⟨by rw [← blay_scl hF h]; exact a.1, fun b hb => ?_⟩
  rw [← path_scl hF h (hb.le h)]
  exact a.2 b (start_scl hF h hb)
theorem none_scl (hF : 1 ≤ F) (h : Fit m ns) {k : Nat} (a : InNone (ns.map (scl F)) (scl F m) k) : InNone ns m k := by
  refine ⟨by rw [← blay_scl hF h]; exact a.1, fun b hb => ?_⟩
  rw [← path_scl hF h (hb.le h)]
  exact a.2 b (start_scl hF h hb)
theorem st_scl (hF : 1 ≤ F) (h : Fit m ns) (k : Nat) : stS (ns.map (scl F)) (scl F m) k = "sometimes" ∨ stS ns m k = stS (ns.map (scl F)) (scl F m) k := by
  by_cases h1 : InNone (ns.map (scl F)) (scl F m) k
  · refine .inr ?_
    unfold stS
    rw [if_pos h1, if_pos (none_scl hF h h1)]
  · by_cases h2 : InAll (ns.map (scl F)) (scl F m) k
    · have h3 := all_scl hF h h2
      refine .inr ?_
      unfold stS
      rw [if_neg h1, if_pos h2, if_neg (fun z => z.1 h3.1), if_pos h3]
    · refine .inl ?_
      unfold stS
      rw [if_neg h1, if_neg h2]
theorem setEnd_scl (hF : 1 ≤ F) (h : Fit m ns) (hm : 1 ≤ m) {e e' : Nat} (s : SetEnd ns m e) (s' : SetEnd (ns.map (scl F)) (scl F m) e') (he : e ≤ ns.length) (he' : e' ≤ ns.length) :
    (prs 0 (pathOf ns m e)).take (prs 0 (pathOf (ns.map (scl F)) (scl F m) e')).length = prs 0 (pathOf (ns.map (scl F)) (scl F m) e') := by
  have hc : Common ns m (StartAt ns m) e' := fun b hb => by
    have := s'.com b (start_scl hF h hb)
    unfold Anc at this ⊢
    rwa [path_scl hF h (hb.le h)] at this
  have hle := s.top _ hc
  have hst := start_end h hm
  have ha := (hc _ hst).chain h (Nat.le_refl _) (s.com _ hst) hle
  obtain ⟨t, et, _⟩ := anc_prefix h he ha
  rw [path_scl hF h he', et, prs_app, List.take_left]
end
theorem AllAt.take {α : Type} {R : Addr → α → Prop} {rs : List V} {ps : List α} (h : AllAt R rs ps) (k : Nat) : AllAt R (rs.take k) (ps.take k) := by
  refine ⟨by rw [List.length_take, List.length_take, h.1], fun i p hp => ?_⟩
  have hi : i < k := by
    have := (List.getElem?_eq_some_iff.mp hp).1
    rw [List.length_take] at this
    omega
  rw [List.getElem?_take_of_lt hi] at hp ⊢
  exact h.2 i p hp
end SL

set_option Elab.async false
set_option linter.all false
set_option maxRecDepth 100000
set_option maxHeartbeats 1000000
/-! Own layer 73: where a closed line begins, by the costs of all places. -/
namespace SL
open PySem PySem.Spec PyProof.Rows L2
def lenU (ns : List Int) (b : Nat) (u : Int) : Int := (ns.drop b).sum + (ns.length : Int) - (b : Int) + u
theorem lenU_eq {ns : List Int} {b : Nat} {u : Int} (h : b ≤ ns.length) : lenL (ns ++ [u]) b (ns.length + 1) = lenU ns b u := by
  unfold lenL lenU
  rw [List.drop_append_of_le_length h, List.take_of_length_le (by rw [List.length_append, List.length_drop]; show _ + 1 ≤ _; omega), List.sum_append]
  show (ns.drop b).sum + (u + 0) + ((ns.length + 1 : Nat) : Int) - (b : Int) - 1 = _
  omega
/-- the full cost of the first b words and the line from there with the word u -/
def paidO (ns : List Int) (m : Int) (b : Nat) (u : Int) : Option Int := if m < lenU ns b u then none else some (csN ns m b + (m - lenU ns b u) ^ 2)
def optV : Option Int → V
  | none => .non
  | some x => .int x
section
variable {ns : List Int} {m u : Int}
theorem startC_spec (hF : Fit m ns) (h1 : 1 ≤ u) (h2 : u ≤ m) : startC ns m u ≤ ns.length ∧ lenU ns (startC ns m u) u ≤ m ∧ ∀ b ≤ ns.length, lenU ns b u ≤ m →
    csN ns m (startC ns m u) + (m - lenU ns (startC ns m u) u) ^ 2 ≤ csN ns m b + (m - lenU ns b u) ^ 2 ∧ (startC ns m u < b → csN ns m (startC ns m u) + (m - lenU ns (startC ns m u) u) ^ 2 < csN ns m b + (m - lenU ns b u) ^ 2) := by
  have hFu := fit_push hF h1 h2
  obtain ⟨a1, a2, a3⟩ := fB_spec hFu (e := ns.length) (by simp)
  have hs : fB (nsOf (ns ++ [u])) m (ns.length + 1) = startC ns m u := rfl
  rw [hs] at a1 a2 a3
  have e : ∀ b ≤ ns.length, (cs (nsOf (ns ++ [u])) m ns.length).getD b 0 = csN ns m b := fun b hb => by
    unfold csN
    rw [cs_congr fun c hc => nsOf_app hc]
  rw [lenU_eq a1] at a2
  refine ⟨a1, a2, fun b hb hl => ?_⟩
  rw [← lenU_eq hb] at hl
  have := a3 b hb hl
  rw [e _ a1, e b hb, lenU_eq hb, lenU_eq a1] at this
  exact this
theorem paid_none (hF : Fit m ns) (h1 : 1 ≤ u) (h2 : u ≤ m) {a : Nat} (h : paidO ns m a u = none) : ¬ a = startC ns m u := fun z => by
  obtain ⟨_, b, _⟩ := startC_spec hF h1 h2
  rw [← z] at b
  unfold paidO at h
  rw [if_neg (by omega)] at h
  cases h
theorem paid_some {a : Nat} {c : Int} (h : paidO ns m a u = some c) : lenU ns a u ≤ m ∧ csN ns m a + (m - lenU ns a u) ^ 2 = c := by
  unfold paidO at h
  by_cases k : m < lenU ns a u
  · rw [if_pos k] at h
    cases h
  · rw [if_neg k] at h
    exact ⟨by omega, Option.some.inj h⟩
theorem paid_beat (hF : Fit m ns) (h1 : 1 ≤ u) (h2 : u ≤ m) {a b : Nat} {c d : Int} (ha : paidO ns m a u = some c) (hb : paidO ns m b u = some d) (hbn : b ≤ ns.length) (h : d < c ∨ d = c ∧ a < b) : ¬ a = startC ns m u := fun z => by
  obtain ⟨_, _, k⟩ := startC_spec hF h1 h2
  obtain ⟨_, ea⟩ := paid_some ha
  obtain ⟨lb, eb⟩ := paid_some hb
  have := k b hbn lb
  rw [← z, ea, eb] at this
  rcases h with h | ⟨h, g⟩
  · omega
  · have := this.2 g
    omega
theorem paid_all (hF : Fit m ns) (h1 : 1 ≤ u) (h2 : u ≤ m) {a : Nat} {c : Int} (ha : paidO ns m a u = some c) (han : a ≤ ns.length) (h : ∀ b ≤ ns.length, ∀ d, paidO ns m b u = some d → ¬ (d < c ∨ d = c ∧ a < b)) : a = startC ns m u := by
  obtain ⟨k0, k1, k⟩ := startC_spec hF h1 h2
  obtain ⟨la, ea⟩ := paid_some ha
  have hs : paidO ns m (startC ns m u) u = some (csN ns m (startC ns m u) + (m - lenU ns (startC ns m u) u) ^ 2) := by
    unfold paidO
    rw [if_neg (by omega)]
  have h3 := h _ k0 _ hs
  have h4 := k a han la
  rw [ea] at h4
  have h5 : ¬ a < startC ns m u := fun z => h3 (by
    by_cases q : csN ns m (startC ns m u) + (m - lenU ns (startC ns m u) u) ^ 2 = c
    · exact .inr ⟨q, z⟩
    · exact .inl (by omega))
  have h6 : ¬ startC ns m u < a := fun z => h3 (.inl (h4.2 z))
  omega
end
theorem sum_nn : ∀ xs : List Int, (∀ x ∈ xs, 0 ≤ x) → 0 ≤ xs.sum
  | [], _ => Int.le_refl _
  | x :: xs, h => by
    have := sum_nn xs fun y hy => h y (List.mem_cons_of_mem _ hy)
    have := h x (List.mem_cons_self ..)
    show 0 ≤ x + xs.sum
    omega
theorem lenU_pos {ns : List Int} {m u : Int} (hF : Fit m ns) {b : Nat} (hb : b ≤ ns.length) (h1 : 1 ≤ u) : 1 ≤ lenU ns b u := by
  have := sum_nn (ns.drop b) fun x hx => by
    have := fit_pos hF x (List.mem_of_mem_drop hx)
    omega
  unfold lenU
  omega
def spPaidAt (K : PySem.W.Frag) : Sp := fun vs H Q _ => ∃ (m : Int) (t : Addr) (ns : List Int) (b : Nat) (u : Int), vs = [.int m, .ref t, natV b, .int u] ∧ SqT K H t (ns.map V.int) ∧ Fit m ns ∧ 1 ≤ m ∧ m ≤ 1000000000 ∧ ns.length ≤ 1000 ∧ b ≤ ns.length ∧ 1 ≤ u ∧ u ≤ m ∧
  ∀ H', Same H H' → Q (optV (paidO ns m b u)) H'
def spIsBest (K : PySem.W.Frag) : Sp := fun vs H Q _ => ∃ (m : Int) (t : Addr) (ns : List Int) (b : Nat) (u : Int), vs = [.int m, .ref t, natV b, .int u] ∧ SqT K H t (ns.map V.int) ∧ Fit m ns ∧ 1 ≤ m ∧ m ≤ 1000000000 ∧ ns.length ≤ 1000 ∧ b ≤ ns.length ∧ 1 ≤ u ∧ u ≤ m ∧
  ∀ H', Same H H' → Q (.bl (decide (b = startC ns m u))) H'
def spRight78 : Sp := fun vs H Q _ => ∃ (p : Addr) (m : Int) (n : Nat), vs = [.ref p, .int m] ∧ PotAt H p n ∧ n < 500000 ∧ 1 ≤ m ∧ m ≤ 1000000000 ∧ ∀ H', Kp p H H' → PotAt H' p (n + 300) → Q (.bl true) H'
end SL

set_option Elab.async false
set_option linter.all false
set_option maxRecDepth 100000
set_option maxHeartbeats 1000000
/-! Own layer 74: ranges only go on. -/
namespace SL
open PySem PySem.Spec PyProof.Rows L2
section
variable {f : Int → Nat} {m : Int}
theorem Cov.lows {lo : Int} {R : List (Int × Int × Nat)} (h : Cov f m lo R) : R ≠ [] → R.map (·.1) = lo :: (R.dropLast.map fun p => p.2.1 + 1) := by
  induction h with
  | nil => exact fun z => absurd rfl z
  | @cons lo hi b R' a1 a2 a3 a4 ih =>
    intro _
    match R', a4, ih with
    | [], _, _ => rfl
    | q :: R'', a4, ih =>
      have := ih (fun z => nomatch z)
      show lo :: (q :: R'').map (·.1) = _
      rw [this]
      rfl
theorem Cov.mono {lo : Int} {R : List (Int × Int × Nat)} (h : Cov f m lo R) : (R.Pairwise fun p q => p.2.2 < q.2.2) → ∀ u v, lo ≤ u → u ≤ v → v ≤ m → f u ≤ f v := by
  induction h with
  | nil => intro _ u v h1 h2 h3; omega
  | @cons lo hi b R' a1 a2 a3 a4 ih =>
    intro hp u v h1 h2 h3
    obtain ⟨hb, hp⟩ := List.pairwise_cons.mp hp
    by_cases hv : v ≤ hi
    · rw [a3 u h1 (by omega), a3 v (by omega) hv]
      exact Nat.le_refl _
    · by_cases hu : u ≤ hi
      · obtain ⟨p, hpm, _, _, e⟩ := a4.at_ v (by omega) h3
        have := hb p hpm
        rw [a3 u h1 hu, e]
        dsimp only at this
        omega
      · exact ih hp u v (by omega) h2 h3
theorem Cov.change {lo : Int} {R : List (Int × Int × Nat)} (h : Cov f m lo R) : (R.Pairwise fun p q => p.2.2 < q.2.2) → ∀ p ∈ R, p.2.1 < m → ¬ p.2.2 = f (p.2.1 + 1) := by
  induction h with
  | nil => intro _ p hp; cases hp
  | @cons lo hi b R' a1 a2 a3 a4 ih =>
    intro hp p hpm hlt
    obtain ⟨hb, hp⟩ := List.pairwise_cons.mp hp
    rcases List.mem_cons.mp hpm with rfl | hpm
    · obtain ⟨q, hq, _, _, e⟩ := a4.at_ (hi + 1) (Int.le_refl _) (by dsimp only at hlt; omega)
      have := hb q hq
      dsimp only at this ⊢
      rw [e]
      omega
    · exact ih hp p hpm hlt
end
theorem perm_asc : ∀ {a b : List Int}, a.Perm b → a.Pairwise (· ≤ ·) → b.Pairwise (· ≤ ·) → a = b
  | [], b, h, _, _ => (List.Perm.nil_eq h)
  | x :: a, [], h, _, _ => absurd h.length_eq (by simp)
  | x :: a, y :: b, h, h1, h2 => by
    obtain ⟨k1, g1⟩ := List.pairwise_cons.mp h1
    obtain ⟨k2, g2⟩ := List.pairwise_cons.mp h2
    have e : x = y := by
      have m1 : x ∈ y :: b := h.subset (List.mem_cons_self ..)
      have m2 : y ∈ x :: a := h.symm.subset (List.mem_cons_self ..)
      rcases List.mem_cons.mp m1 with e | m1
      · exact e
      · rcases List.mem_cons.mp m2 with e | m2
        · exact e.symm
        · have := k1 y m2
          have := k2 x m1
          omega
    rw [← e] at h ⊢
    exact congrArg (x :: ·) (perm_asc h.cons_inv g1 g2)
theorem asc_uniI : ∀ {L L' : List Int}, L.Pairwise (· < ·) → L'.Pairwise (· < ·) → (∀ b, b ∈ L ↔ b ∈ L') → L = L'
  | [], [], _, _, _ => rfl
  | [], y :: _, _, _, h => nomatch (h y).mpr (List.mem_cons_self ..)
  | x :: _, [], _, _, h => nomatch (h x).mp (List.mem_cons_self ..)
  | x :: L, y :: L', h1, h2, h => by
    obtain ⟨k1, g1⟩ := List.pairwise_cons.mp h1
    obtain ⟨k2, g2⟩ := List.pairwise_cons.mp h2
    have e : x = y := by
      rcases List.mem_cons.mp ((h x).mp (List.mem_cons_self ..)) with e | m1
      · exact e
      · rcases List.mem_cons.mp ((h y).mpr (List.mem_cons_self ..)) with e | m2
        · exact e.symm
        · have := k1 y m2
          have := k2 x m1
          omega
    rw [← e] at h k2 ⊢
    refine congrArg (x :: ·) (asc_uniI g1 g2 fun b => ⟨fun hb => ?_, fun hb => ?_⟩)
    · rcases List.mem_cons.mp ((h b).mp (List.mem_cons_of_mem _ hb)) with q | q
      · have := k1 b hb
        omega
      · exact q
    · rcases List.mem_cons.mp ((h b).mpr (List.mem_cons_of_mem _ hb)) with q | q
      · have := k2 b hb
        omega
      · exact q
theorem can_intL : ∀ es : List Int, PyData.canLayAll0 (es.map PyData.int) = true ∧ PyData.depthAll (es.map PyData.int) = 0
  | [] => ⟨rfl, rfl⟩
  | e :: es => by
    obtain ⟨a, b⟩ := can_intL es
    refine ⟨?_, ?_⟩
    · show (PyData.canLay0 (.int e) && PyData.canLayAll0 (es.map PyData.int)) = true
      rw [a]
      rfl
    · simp [PyData.depthAll, PyData.depth, b]
theorem shaped_intL (es : List Int) : SeqAt.shaped (.list (es.map PyData.int)) = true := by
  obtain ⟨a, b⟩ := can_intL es
  unfold SeqAt.shaped
  simp only [PyData.canLay0, PyData.depth, a, b]
  rfl
theorem eqv_intA : ∀ es : List Int, PyData.eqvAll (es.map PyData.int) (es.map PyData.int) = true
  | [] => by simp [PyData.eqvAll]
  | e :: es => by simp [PyData.eqvAll, PyData.eqv, eqv_intA es]
theorem eqv_intL (es : List Int) : PyData.eqv (.list (es.map PyData.int)) (.list (es.map PyData.int)) = true := by
  simp only [PyData.eqv]
  exact eqv_intA es
theorem eqv_intT (es : List Int) : PyData.eqv (.tuple (es.map PyData.int)) (.tuple (es.map PyData.int)) = true := by
  simp only [PyData.eqv]
  exact eqv_intA es
/-- behind the text a word u and this tail -/
def TailOk (ns : List Int) (m : Int) (f : Int → Nat) (fs : List Int) : Prop := f m = ns.length ∧ fs.length ≤ 1 ∧ ∀ u, 1 ≤ u → u ≤ m → Fit m (ns ++ ([u] ++ fs)) ∧ startF ns ([u] ++ fs) m = f u ∧ StartAt ns m (f u)
/-- the ranges and the tail that goes with them -/
def Bx (K : PySem.W.Frag) (ns : List Int) (m : Int) (H : Hp) (px : Addr) : Prop := ∃ (r tl : Addr) (rs : List V) (R : List (Int × Int × Nat)) (f : Int → Nat) (fs : List Int),
  SqT K H px [.ref r, .ref tl] ∧ H r = some (.tup rs) ∧ AllAt (TrAt H) rs R ∧ RangesFor m f R ∧ SqT K H tl (fs.map V.int) ∧ TailOk ns m f fs ∧ R.length ≤ ns.length + 1
theorem Bx.same {K : PySem.W.Frag} {ns : List Int} {m : Int} {H H' : Hp} {px : Addr} (h : Bx K ns m H px) (s : Same H H') : Bx K ns m H' px := by
  obtain ⟨r, tl, rs, R, f, fs, h1, h2, h3, h4, h5, h6⟩ := h
  exact ⟨r, tl, rs, R, f, fs, Same.tup s h1, s _ _ h2, h3.mono (TrAt.same s), h4, Same.tup s h5, h6⟩
theorem Bx.kp {K : PySem.W.Frag} {ns : List Int} {m : Int} {H H' : Hp} {p px : Addr} {n : Nat} (h : Bx K ns m H px) (k : Kp p H H') (hp : PotAt H p n) : Bx K ns m H' px := by
  obtain ⟨r, tl, rs, R, f, fs, h1, h2, h3, h4, h5, h6⟩ := h
  exact ⟨r, tl, rs, R, f, fs, k.tup hp h1, k.tups hp h2, h3.mono (fun a q h => k.tups hp h), h4, k.tup hp h5, h6⟩
theorem tail_closed {ns : List Int} {m : Int} (hF : Fit m ns) (hm : 1 ≤ m) : TailOk ns m (startC ns m) [m] := by
  refine ⟨?_, Nat.le_refl _, fun u h1 h2 => ⟨?_, startF_two hF h1 h2, u, h1, h2, .inl rfl⟩⟩
  · have h := fit_push hF hm (Int.le_refl m)
    unfold startC
    have k := fB_own (R := ns) (B := []) (fit_nilr h)
    rw [List.append_nil] at k
    exact k
  · have := fit_push (fit_push hF h1 h2) hm (Int.le_refl m)
    rwa [List.append_assoc] at this
theorem tail_open {ns : List Int} {m : Int} (hF : Fit m ns) (hm : 1 ≤ m) : TailOk ns m (startO ns m) [] :=
  ⟨lB_wide (fit_push hF hm (Int.le_refl m)), Nat.zero_le _, fun u h1 h2 => ⟨fit_push hF h1 h2, startF_one hF h1 h2, u, h1, h2, .inr rfl⟩⟩
end SL

set_option Elab.async false
set_option linter.all false
set_option maxRecDepth 100000
set_option maxHeartbeats 1000000
/-! Own layer 75: words of which no two fit into one line. -/
namespace SL
open PySem PySem.Spec PyProof.Rows L2
section
variable {ns : List Int} {m : Int}
theorem nsOf_mem {b : Nat} (h : b < ns.length) : nsOf ns b ∈ ns := by
  unfold nsOf
  rw [List.getD_eq_getElem?_getD, List.getElem?_eq_getElem h]
  exact List.getElem_mem h
theorem big_line (hF : Fit m ns) (hW : ∀ x ∈ ns, m ≤ 2 * x) {s e : Nat} (he : e < ns.length) (hs : s ≤ e) (hl : lenL ns s (e + 1) ≤ m) : s = e := by
  by_cases h : s = e
  · exact h
  · have h1 := lenL_mono (fit_pos hF) (e := e + 1) (by omega) (e - 1 - s) s (by omega)
    rw [show s + (e - 1 - s) = e - 1 by omega, lenL_push (b := e - 1) (e := e) (by omega) he] at h1
    have h2 : lenL ns (e - 1) e = nsOf ns (e - 1) := by
      have := lenL_one (ns := ns) (b := e - 1) (by omega)
      rwa [show e - 1 + 1 = e by omega] at this
    have h3 := hW _ (nsOf_mem (show e - 1 < ns.length by omega))
    have h4 := hW _ (nsOf_mem he)
    omega
theorem fB_big (hF : Fit m ns) (hW : ∀ x ∈ ns, m ≤ 2 * x) {e : Nat} (he : e < ns.length) : fB (nsOf ns) m (e + 1) = e := by
  obtain ⟨a, b, _⟩ := fB_spec hF he
  exact big_line hF hW he a b
def oneTo (n : Nat) : List Nat := (List.range n).map (· + 1)
theorem oneTo_succ {n : Nat} : oneTo (n + 1) = oneTo n ++ [n + 1] := by
  unfold oneTo
  rw [List.range_succ, List.map_append]
  rfl
theorem oneTo_mem {n k : Nat} : k ∈ oneTo n ↔ 1 ≤ k ∧ k ≤ n := by
  unfold oneTo
  rw [List.mem_map]
  constructor
  · rintro ⟨x, hx, rfl⟩
    have := List.mem_range.mp hx
    omega
  · rintro ⟨h1, h2⟩
    exact ⟨k - 1, List.mem_range.mpr (by omega), by omega⟩
theorem path_big (hF : Fit m ns) (hW : ∀ x ∈ ns, m ≤ 2 * x) : ∀ {e : Nat}, e ≤ ns.length → pathOf ns m e = oneTo e
  | 0, _ => rfl
  | e + 1, he => by
    rw [pathOf_succ hF (by omega) he, fB_big hF hW (by omega), path_big hF hW (by omega), oneTo_succ]
theorem lB_big (hF : Fit m ns) (hW : ∀ x ∈ ns, m ≤ 2 * x) (h0 : 0 < ns.length) : lB ns m + 1 = ns.length := by
  obtain ⟨a, b, _⟩ := lB_spec hF h0
  obtain ⟨d, hd⟩ : ∃ d, ns.length = d + 1 := ⟨ns.length - 1, by omega⟩
  rw [hd] at a b
  have := big_line hF hW (show d < ns.length by omega) (by omega) b
  omega
theorem blay_big (hF : Fit m ns) (hW : ∀ x ∈ ns, m ≤ 2 * x) (h0 : 0 < ns.length) : blay ns m = oneTo ns.length := by
  have h := lB_big hF hW h0
  unfold blay
  rw [if_neg (fun z => by rw [z] at h0; simp at h0), path_big hF hW (by omega)]
  rw [← h, oneTo_succ]
theorem prs_big (k : Nat) : prs 0 (oneTo k) = (List.range k).map fun i => (i, i + 1) := by
  induction k with
  | zero => rfl
  | succ k ih =>
    rw [oneTo_succ, prs_app, ih, List.range_succ, List.map_append]
    congr 1
    have : (oneTo k).getLast?.getD 0 = k := by
      match k with
      | 0 => rfl
      | k + 1 => rw [oneTo_succ, List.getLast?_concat]; rfl
    rw [this]
    rfl
end
section
variable {ms : List Int} {w m : Int}
theorem csN_big (hF : Fit m (ms ++ [w])) (hW : ∀ x ∈ ms ++ [w], m ≤ 2 * x) : csN (ms ++ [w]) m ((ms ++ [w]).length) = csN (ms ++ [w]) m ms.length + (m - w) ^ 2 := by
  have h := fB_cost hF (by simp)
  have el : (ms ++ [w]).length = ms.length + 1 := by simp
  rw [el] at h ⊢
  rw [fB_big hF hW (by rw [el]; omega), lenL_last] at h
  exact h
theorem lenU_last {u : Int} : lenU (ms ++ [w]) ms.length u = w + 1 + u ∧ lenU (ms ++ [w]) (ms.length + 1) u = u := by
  unfold lenU
  have e1 : (ms ++ [w]).drop ms.length = [w] := by simp
  have e2 : (ms ++ [w]).drop (ms.length + 1) = [] := by simp
  rw [e1, e2]
  simp only [List.length_append, List.length_cons, List.length_nil, List.sum_cons, List.sum_nil]
  constructor <;> omega
theorem sq_lt {a b : Int} (h0 : 0 ≤ a) (h : a < b) : a ^ 2 < b ^ 2 := by
  have e : ∀ a : Int, a ^ 2 = a * a := fun a => by rw [Int.pow_succ, Int.pow_succ, Int.pow_zero, Int.one_mul]
  rw [e, e]
  have h1 : a * a ≤ a * b := Int.mul_le_mul_of_nonneg_left (by omega) h0
  have h2 : a * b < b * b := Int.mul_lt_mul_of_pos_right h (by omega)
  omega
theorem lenU_far (hF : Fit m (ms ++ [w])) (hW : ∀ x ∈ ms ++ [w], m ≤ 2 * x) {u : Int} (h1 : 1 ≤ u) (h2 : u ≤ m) {s : Nat} (hs : s ≤ ms.length + 1) (hl : lenU (ms ++ [w]) s u ≤ m) : s = ms.length ∨ s = ms.length + 1 := by
  by_cases h : s < ms.length
  · have hFu := fit_push hF h1 h2
    have el : (ms ++ [w]).length = ms.length + 1 := by simp
    have e := lenU_eq (ns := ms ++ [w]) (u := u) (b := s) (by rw [el]; omega)
    rw [el] at e
    rw [← e] at hl
    have hle := lenL_le (fit_pos hFu) (b := s) (e := ms.length + 1) (d := 1) (by omega) (by simp)
    rw [lenL_appl (by rw [el]; omega)] at hle
    have := big_line hF hW (s := s) (e := ms.length) (by rw [el]; omega) (by omega) (by omega)
    omega
  · omega
theorem startC_big (hF : Fit m (ms ++ [w])) (hW : ∀ x ∈ ms ++ [w], m ≤ 2 * x) {u : Int} (h1 : 1 ≤ u) (h2 : u ≤ m) : startC (ms ++ [w]) m u = if u ≤ m - 1 - w then ms.length else ms.length + 1 := by
  obtain ⟨a1, a2, a3⟩ := startC_spec hF h1 h2
  have el : (ms ++ [w]).length = ms.length + 1 := by simp
  have hw := (hF ms.length (by rw [el]; omega))
  rw [nsOf_end] at hw
  rw [el] at a1
  obtain ⟨k1, k2⟩ := lenU_last (ms := ms) (w := w) (u := u)
  rcases lenU_far hF hW h1 h2 a1 a2 with h | h
  · rw [h, k1] at a2
    rw [h, if_pos (by omega)]
  · by_cases hu : u ≤ m - 1 - w
    · have h3 := (a3 ms.length (by rw [el]; omega) (by rw [k1]; omega)).1
      have hc := csN_big hF hW
      rw [el] at hc
      rw [h, k1, k2, hc] at h3
      have q1 : 0 < (m - w) ^ 2 := by
        have := sq_lt (a := 0) (b := m - w) (by omega) (by omega)
        exact this
      have q2 : (m - (w + 1 + u)) ^ 2 < (m - u) ^ 2 := sq_lt (by omega) (by omega)
      omega
    · rw [h, if_neg hu]
theorem startO_big (hF : Fit m (ms ++ [w])) (hW : ∀ x ∈ ms ++ [w], m ≤ 2 * x) {u : Int} (h1 : 1 ≤ u) (h2 : u ≤ m) : startO (ms ++ [w]) m u = if u ≤ m - 1 - w then ms.length else ms.length + 1 := by
  have hFu := fit_push hF h1 h2
  have el : (ms ++ [w]).length = ms.length + 1 := by simp
  have elu : ((ms ++ [w]) ++ [u]).length = ms.length + 2 := by simp
  obtain ⟨a1, a2, a3⟩ := lB_spec hFu (by simp)
  have a1 : startO (ms ++ [w]) m u < ((ms ++ [w]) ++ [u]).length := a1
  have hs : lB ((ms ++ [w]) ++ [u]) m = startO (ms ++ [w]) m u := rfl
  rw [hs] at a2 a3
  rw [elu] at a1 a2 a3
  have hw := (hF ms.length (by rw [el]; omega))
  rw [nsOf_end] at hw
  obtain ⟨k1, k2⟩ := lenU_last (ms := ms) (w := w) (u := u)
  have eU : ∀ b ≤ ms.length + 1, lenL ((ms ++ [w]) ++ [u]) b (ms.length + 2) = lenU (ms ++ [w]) b u := fun b hb => by
    have := lenU_eq (ns := ms ++ [w]) (u := u) (b := b) (by rw [el]; exact hb)
    rw [el] at this
    exact this
  rw [eU _ (by omega)] at a2
  have eN : ∀ b ≤ ms.length + 1, csN ((ms ++ [w]) ++ [u]) m b = csN (ms ++ [w]) m b := fun b hb => cs_ext (by rw [el]; exact hb)
  rcases lenU_far hF hW h1 h2 (by omega) a2 with h | h
  · rw [h, k1] at a2
    rw [h, if_pos (by omega)]
  · by_cases hu : u ≤ m - 1 - w
    · have h3 := (a3 ms.length (by omega) (by rw [eU _ (by omega), k1]; omega)).1
      have hc := csN_big hF hW
      rw [el] at hc
      rw [h, eN _ (Nat.le_refl _), eN _ (by omega), hc] at h3
      have q1 : 0 < (m - w) ^ 2 := sq_lt (a := 0) (b := m - w) (by omega) (by omega)
      omega
    · rw [h, if_neg hu]
end
section
variable {ms : List Int} {w m : Int}
/-- the ranges, free room behind the last word or none -/
def rgB (k : Nat) (m w : Int) : List (Int × Int × Nat) := if 0 < m - 1 - w then [(1, m - 1 - w, k), (m - 1 - w + 1, m, k + 1)] else [(1, m, k + 1)]
theorem ranges_big {f : Int → Nat} {k : Nat} (hm : 1 ≤ m) (hw : 1 ≤ w) (h : ∀ u, 1 ≤ u → u ≤ m → f u = if u ≤ m - 1 - w then k else k + 1) : RangesFor m f (rgB k m w) := by
  unfold rgB
  split
  · refine ⟨.cons (by omega) (by omega) (fun u a b => ?_) (.cons (by omega) (Int.le_refl _) (fun u a b => ?_) .nil), by simp⟩
    · rw [h u a (by omega), if_pos b]
    · rw [h u (by omega) b, if_neg (by omega)]
  · exact ranges_const hm fun u a b => by rw [h u a b, if_neg (by omega)]
def stB (k : Nat) (m w : Int) : List Nat := if 0 < m - 1 - w then [k, k + 1] else [k + 1]
theorem startAt_big (hF : Fit m (ms ++ [w])) (hW : ∀ x ∈ ms ++ [w], m ≤ 2 * x) (hm : 1 ≤ m) (hw : 1 ≤ w) {b : Nat} : StartAt (ms ++ [w]) m b ↔ b ∈ stB ms.length m w := by
  unfold stB
  constructor
  · rintro ⟨u, h1, h2, h3⟩
    have : b = if u ≤ m - 1 - w then ms.length else ms.length + 1 := by
      rcases h3 with h3 | h3
      · rw [h3, startC_big hF hW h1 h2]
      · rw [h3, startO_big hF hW h1 h2]
    split at this
    · rw [if_pos (by omega), this]; simp
    · rw [this]
      split <;> simp
  · intro h
    split at h
    · rcases List.mem_cons.mp h with rfl | h
      · exact ⟨1, by omega, by omega, .inl (by rw [startC_big hF hW (by omega) (by omega), if_pos (by omega)])⟩
      · obtain rfl := List.mem_singleton.mp h
        exact ⟨m, by omega, Int.le_refl _, .inl (by rw [startC_big hF hW hm (Int.le_refl _), if_neg (by omega)])⟩
    · obtain rfl := List.mem_singleton.mp h
      exact ⟨m, by omega, Int.le_refl _, .inl (by rw [startC_big hF hW hm (Int.le_refl _), if_neg (by omega)])⟩
theorem starts_big (hF : Fit m (ms ++ [w])) (hW : ∀ x ∈ ms ++ [w], m ≤ 2 * x) (hm : 1 ≤ m) (hw : 1 ≤ w) : StartsL (ms ++ [w]) m (stB ms.length m w) := by
  refine ⟨?_, fun b => (startAt_big hF hW hm hw).symm⟩
  unfold stB
  split <;> simp
theorem st_big (hF : Fit m (ms ++ [w])) (hW : ∀ x ∈ ms ++ [w], m ≤ 2 * x) (hm : 1 ≤ m) (hw : 1 ≤ w) {k : Nat} (h1 : 1 ≤ k) (h2 : k ≤ ms.length + 1) :
    stS (ms ++ [w]) m k = if k ≤ ms.length then ("always" : Str) else if 0 < m - 1 - w then ("sometimes" : Str) else ("always" : Str) := by
  have el : (ms ++ [w]).length = ms.length + 1 := by simp
  have hbl : k ∈ blay (ms ++ [w]) m := by
    rw [blay_big hF hW (by rw [el]; omega), el]
    exact oneTo_mem.mpr ⟨h1, h2⟩
  have hN : ¬ InNone (ms ++ [w]) m k := fun z => z.1 hbl
  have hle : ∀ b, StartAt (ms ++ [w]) m b → b ≤ ms.length + 1 ∧ ms.length ≤ b := fun b hb => by
    have := (startAt_big hF hW hm hw).mp hb
    unfold stB at this
    split at this
    · simp at this; omega
    · simp at this; omega
  unfold stS
  rw [if_neg hN]
  by_cases hk : k ≤ ms.length
  · rw [if_pos hk, if_pos]
    refine ⟨hbl, fun b hb => ?_⟩
    rw [path_big hF hW (by rw [el]; exact (hle b hb).1)]
    have := (hle b hb).2
    exact oneTo_mem.mpr ⟨h1, by omega⟩
  · rw [if_neg hk]
    by_cases hf : 0 < m - 1 - w
    · rw [if_pos hf, if_neg]
      intro z
      have hs : StartAt (ms ++ [w]) m ms.length := (startAt_big hF hW hm hw).mpr (by unfold stB; rw [if_pos hf]; simp)
      have := z.2 _ hs
      rw [path_big hF hW (by rw [el]; omega)] at this
      have := oneTo_mem.mp this
      omega
    · rw [if_neg hf, if_pos]
      refine ⟨hbl, fun b hb => ?_⟩
      have := (startAt_big hF hW hm hw).mp hb
      unfold stB at this
      rw [if_neg hf] at this
      obtain rfl := List.mem_singleton.mp this
      rw [path_big hF hW (by rw [el]; omega)]
      exact oneTo_mem.mpr ⟨h1, h2⟩
theorem stL_big (hF : Fit m (ms ++ [w])) (hW : ∀ x ∈ ms ++ [w], m ≤ 2 * x) (hm : 1 ≤ m) (hw : 1 ≤ w) :
    stL (ms ++ [w]) m = List.replicate ms.length ("always" : Str) ++ [if 0 < m - 1 - w then ("sometimes" : Str) else ("always" : Str)] := by
  have el : (ms ++ [w]).length = ms.length + 1 := by simp
  refine List.ext_getElem? fun i => ?_
  by_cases h1 : i < ms.length
  · rw [stL_at (by rw [el]; omega), st_big hF hW hm hw (by omega) (by omega), if_pos (by omega), List.getElem?_append_left (by simpa using h1), List.getElem?_replicate, if_pos h1]
  · by_cases h2 : i = ms.length
    · subst h2
      rw [stL_at (by rw [el]; omega), st_big hF hW hm hw (by omega) (by omega), if_neg (by omega), List.getElem?_append_right (by simp)]
      simp
    · rw [List.getElem?_eq_none (by rw [stL_len, el]; omega), List.getElem?_eq_none (by simp; omega)]
def seB (k : Nat) (m w : Int) : Nat := if 0 < m - 1 - w then k else k + 1
theorem setEnd_big (hF : Fit m (ms ++ [w])) (hW : ∀ x ∈ ms ++ [w], m ≤ 2 * x) (hm : 1 ≤ m) (hw : 1 ≤ w) : SetEnd (ms ++ [w]) m (seB ms.length m w) := by
  have el : (ms ++ [w]).length = ms.length + 1 := by simp
  unfold seB
  refine ⟨fun s hs => ?_, fun x hx => ?_⟩
  · have h := (startAt_big hF hW hm hw).mp hs
    unfold stB at h
    split
    · rename_i hf
      rw [if_pos hf] at h
      have hsl : s ≤ ms.length + 1 ∧ ms.length ≤ s := by simp at h; omega
      by_cases h0 : ms.length = 0
      · exact .inl h0
      · refine .inr ?_
        rw [path_big hF hW (by rw [el]; exact hsl.1)]
        exact oneTo_mem.mpr ⟨by omega, hsl.2⟩
    · rename_i hf
      rw [if_neg hf] at h
      obtain rfl := List.mem_singleton.mp h
      refine .inr ?_
      rw [path_big hF hW (by rw [el]; omega)]
      exact oneTo_mem.mpr ⟨by omega, Nat.le_refl _⟩
  · split
    · rename_i hf
      have hs : StartAt (ms ++ [w]) m ms.length := (startAt_big hF hW hm hw).mpr (by unfold stB; rw [if_pos hf]; simp)
      exact (hx _ hs).le hF (by rw [el]; omega)
    · rename_i hf
      have hs : StartAt (ms ++ [w]) m (ms.length + 1) := (startAt_big hF hW hm hw).mpr (by unfold stB; rw [if_neg hf]; simp)
      exact (hx _ hs).le hF (by rw [el]; omega)
end
theorem prs_big_take {N k : Nat} (h : k ≤ N) : (prs 0 (oneTo N)).take k = prs 0 (oneTo k) := by
  rw [prs_big, prs_big, ← List.map_take, List.take_range, Nat.min_eq_left h]
theorem tuple_mul0 (l : Addr) (x : Value) (n : Nat) (dd : Option Addr) (sl : Array (Option Value)) (u : Tok) :
    Meets (Builtin.«tuple.__mul__» ⟨[.ref l, .int 0 u], []⟩) (fun _ R s => s.heap.get? l = some { cls := .type "tuple", dict := dd, data := .seq #[x] n, slots := sl } ∧ R (.ok (.ret (Value.ref s.heap.objs.size))) { s with heap := s.heap.push { cls := Value.type "tuple", data := Data.seq #[] }, toks := s.toks }) :=
  .of_wp fun prog w A R s h => by
    obtain ⟨hp, g, d, tk, os⟩ := s
    obtain ⟨hl, h⟩ := h
    have f1 := AutoSeq1.idx_int
    wp_walk using wpAny_loadPart' hl
    exact ⟨_, rfl, h⟩
/-- (z,) * k, k from 0 -/
def rRepN (K : PySem.W.Frag) : R2 := fun x y H Q => ∃ l k z, x = .ref l ∧ y = .int k ∧ SqT K H l [z] ∧ 0 ≤ k ∧ k ≤ 1000 ∧ ∀ H' c, Same H H' → SqT K H' c (List.replicate k.toNat z) → Q (.ref c) H'
theorem op_repN {X : Cx} : OpR X (binaryOp .Mult) (rRepN X.K) := by
  intro pins s σ H x y v u Q I rx ry ⟨l, k, z, ex, ey, hT, h1, h3, q⟩
  by_cases h2 : 1 ≤ k
  · exact op_repC pins s σ H x y v u Q I rx ry ⟨l, k, z, ex, ey, hT, h2, h3, q⟩
  · obtain rfl : k = 0 := by omega
    subst ex ey
    cases rx
    obtain ⟨t, rfl⟩ := ry
    obtain ⟨its, r, ⟨⟨cls, dd, data, sl⟩, ho, hc, n, hd⟩, hs⟩ := I.tuple hT
    simp only at hc hd
    subst hc hd
    have hl := r.length
    match its, hl, r, ho with
    | [zv], _, r, ho =>
      refine wpAny_binaryOp_repeat_ref (T := "tuple") (U := "int") (by decide) ⟨_, ho, rfl⟩ (fun s' => typeIs_int s' 0 t) noFill_tuple_mul F.fills_int_mul F.slot_int_rmul repeat_tuple F.slot_int_index.lookup
        (call_meets F.slot_int_rmul (typeIs_int s 0 t) F.entry_int_rmul (F.args_int_rmul_2 _ _) (int_rmul_tuple 0 t l #[zv] n dd sl)
          ⟨ho, rfl, ⟨_, ho, rfl⟩, call_meets F.slot_tuple_mul ⟨_, ho, rfl⟩ F.entry_tuple_mul (F.args_tuple_mul_2 _ _) (tuple_mul0 l zv n dd sl t) ⟨ho, ?_⟩⟩)
      refine ⟨.ref s.heap.objs.size, _, I.laid (t' := s.toks) (o := .tup []) (fun b ob q => Heap.get?_push_of_some _ q) (Nat.le_refl _) ?_, rfl, q _ _ (Same.new (I.hok.fresh (Nat.le_refl _))) (SqT.of upd_same)⟩
      exact ⟨Nat.zero_le _, [], .nil, IsTup.new _ _⟩
def spRight80 : Sp := fun vs H Q _ => ∃ (p : Addr) (m : Int) (n : Nat), vs = [.ref p, .int m] ∧ PotAt H p n ∧ n < 500000 ∧ 2 ≤ m ∧ m ≤ 1000000000 ∧ ∀ H', Kp p H H' → PotAt H' p (n + 70) → Q (.bl true) H'
end SL

set_option Elab.async false
set_option linter.all false
set_option maxRecDepth 100000
set_option maxHeartbeats 1000000
/-! Own layer 76: enumerate of a tuple with a start. -/
namespace SL
open PySem PySem.Spec PyProof.Rows L2
/-- the tuple at a, each item in a new pair behind its count, from k on -/
def ItEn (K : PySem.W.Frag) (a : Addr) (k : Int) : It :=
  ⟨fun i H => ∃ (xs : List V) (x : V), SqT K H a xs ∧ xs[i]? = some x,
    fun i H v H' => ∃ T x, v = .ref T ∧ H T = none ∧ H' = upd H T (.tup [.int (k + (i : Nat)), x]) ∧ ∀ xs, SqT K H a xs → xs[i]? = some x,
    fun i H => ∃ xs : List V, SqT K H a xs ∧ xs.length = i⟩
theorem turn_enumT {P : Program} {w : World} {K : PySem.W.Frag} {elts : List Expr} {kk : Nat} {tpos : Pos} {k : Int} {a e it : Addr} :
    Turn P w K (.Tuple elts kk tpos) (ItEn K a k) [e, it] e (fun i h => (∃ old, IsEnum h e it (k + ((i : Nat) : Int)) old) ∧ h.IsTupleIter it a i ∧ e ≠ it ∧ a ≠ it ∧ e ≠ a) where
  mem := by simp
  obj := fun i h st b hb => by
    obtain ⟨⟨old, he⟩, ⟨o, ho, hc, hd⟩, _⟩ := st
    have e' : b = e ∨ b = it := by simpa using hb
    rcases e' with z | z
    · rw [z]; exact ⟨_, he, fun v q => nomatch q⟩
    · rw [z]; exact ⟨o, ho, fun v q => by rw [hd] at q; cases q⟩
  keep := fun i h h' st kq => let ⟨⟨old, he⟩, hi, hne⟩ := st; ⟨⟨old, kq e (by simp) _ he⟩, hi.at fun o q => kq it (by simp) o q, hne⟩
  item := by
    intro X hP hw hK hc i pins s σ H E I hf st hg
    subst hP hw hK
    obtain ⟨⟨old, he⟩, hit, hne, hni, hna⟩ := st
    obtain ⟨xs, x, hq, hx⟩ := hg
    obtain ⟨its, rv, p, hz⟩ := I.tuple hq
    obtain ⟨u, hu, ru⟩ := rv.get hx
    have hel : e < s.heap.objs.size := Heap.lt_size he
    have hil : it < s.heap.objs.size := by obtain ⟨_, q, _⟩ := hit; exact Heap.lt_size q
    have hlt : i < its.toArray.size := by
      have := (List.getElem?_eq_some_iff.mp hu).1
      simpa using this
    have D0 : Draws X.prog X.w X.A.in1 it [it, a] its.toArray.size (fun i v => its.toArray[i]? = some v) (fun i h => h.IsTupleIter it a i ∧ h.IsTuple a its.toArray) := Draws.tuple (show X.A.in1.handled = none from I.ok.hd hc) it a hni its.toArray
    refine wpAny_pyNext_enum_itemC D0 he ⟨hit, p⟩ hlt hne (by simp [hne, hna]) fun x1 h' tk hx1 ho hit' hT hsz hk => ?_
    have hx1 : u = x1 := by
      have q : its.toArray[i]? = some u := by simpa using hu
      rw [hx1] at q
      exact (Option.some.inj q).symm
    subst hx1
    refine ⟨_, rfl, wpAny_letOwnedTupleGo_enum (s := { s with heap := h', toks := tk + 1 }) ho fun h'' he' sb => ?_⟩
    have hT2 : h''.get? s.heap.objs.size = some { cls := .type "tuple", data := .seq #[.int (k + (i : Int)) tk, u] } := (sb.2 _ (Nat.ne_of_gt hel)).trans hT
    have new : ObjOk X.prog X.w (upd H s.heap.objs.size (.tup [.int (k + (i : Nat)), x])) h'' s.heap.objs.size (.tup [.int (k + (i : Nat)), x]) :=
      ⟨by show 2 ≤ sizeLine; decide, [.int (k + (i : Int)) tk, u], .cons ⟨_, rfl⟩ (.cons ru .nil), ⟨_, hT2, rfl, _, rfl⟩⟩
    have I1 : Inv X pins σ (upd H s.heap.objs.size (.tup [.int (k + (i : Nat)), x])) { s with heap := h'', toks := tk + 1 } :=
      I.turnedNew (ch := [e, it]) (fun b ob hb q => (sb.2 b (fun z => hb (by simp [z]))).trans (hk b ob (fun z => hb (by simp [z])) (fun z => hb (by simp [z])) q)) hf (Nat.le_refl _) new
    refine ⟨.ref s.heap.objs.size, _, I1, rfl, ⟨_, x, rfl, I.hok.fresh (Nat.le_refl _), rfl, fun ys hy => by rw [I.tuple_inj hy hq]; exact hx⟩, ⟨⟨u, ?_⟩, hit'.1.at fun o q => (sb.2 it (Ne.symm hne)).trans q, hne, hni, hna⟩, fun b hb => ?_⟩
    · have e1 : k + ((i + 1 : Nat) : Int) = k + (i : Int) + 1 := by omega
      rw [e1]; exact he'
    · have hb' : b < s.heap.objs.size := by
        have e' : b = e ∨ b = it := by simpa using hb
        rcases e' with z | z
        · rw [z]; exact hel
        · rw [z]; exact hil
      rw [upd_ne (Nat.ne_of_lt hb')]
      exact (hf b hb).1
  done := by
    intro X hP hw hK hc i pins s σ H E I hf st hg
    subst hP hw hK
    obtain ⟨⟨old, he⟩, hit, hne, hni, hna⟩ := st
    obtain ⟨xs, hq, hx⟩ := hg
    obtain ⟨its, rv, p, hz⟩ := I.tuple hq
    obtain ⟨f0, f1, f2, f3, f4, f5⟩ := hf it (by simp)
    have hl := rv.length
    have en : its.toArray.size = i := by simp; omega
    subst en
    have D0 : Draws X.prog X.w X.A.in1 it [it, a] its.toArray.size (fun i v => its.toArray[i]? = some v) (fun i h => h.IsTupleIter it a i ∧ h.IsTuple a its.toArray) := Draws.tuple (show X.A.in1.handled = none from I.ok.hd hc) it a hni its.toArray
    exact wpAny_pyNext_enum_endD D0 he ⟨hit, p⟩ fun h' eb => ⟨rfl, I.turned (t' := s.toks) (fun b o hb q => eb b o hb q) f0 f1 f3 f4 f5⟩
  self := fun A i s Q E st h => let ⟨⟨_, he⟩, _⟩ := st; wpAny_pyIter_enum he h
def iEn (K : PySem.W.Frag) (ta : TA) : TI := fun σ H R => ta σ H fun vs H1 => ∃ a k xs, vs = [.ref a, .int k] ∧ SqT K H1 a xs ∧ -(2 ^ 63) ≤ k ∧ k < 2 ^ 63 ∧ R (ItEn K a k) H1
theorem pi_enumT {X : Cx} {e e2 : Expr} {ta : TA} {p pos tpos : Pos} {elts : List Expr} {kk : Nat} (hg : Gl X "enumerate") (hm : X.mg "enumerate" = none) (ha : PA X [e, e2] ta)
    (hs : starEach [e, e2] X.env = (false, eval e X.env) :: starEach [e2] X.env := by rfl) (hpl : (backTo pos (starEach [e2] X.env)).any (·.1) = false := by rfl) :
    PI X (.Tuple elts kk tpos) (.Call (.Name "enumerate" p) [e, e2] [] pos) (iEn X.K ta) := by
  refine ⟨fun pins s σ H R I h => ?_⟩
  refine Call_ (ld_blt I hg hm boot_enumerate (PyProof.Rows.callWith_type1 (thn (ha.run pos pins s σ H _ I h) fun us s1 ⟨vs, H1, I1, r1, q1⟩ => ?_) hs hpl))
  obtain ⟨a, k, xs, ex, hq, hk0, hk1, q⟩ := q1
  subst ex
  cases r1 with
  | cons r rr =>
    cases rr with
    | cons r' rr =>
      cases rr
      cases r
      obtain ⟨t, rfl⟩ := r'
      obtain ⟨its, rv, p', hz⟩ := I1.tuple hq
      have hal : a < s1.heap.objs.size := by obtain ⟨_, q, _⟩ := id p'; exact Heap.lt_size q
      refine enum_begins (begins_tuple a its.toArray) (show s1.heap.IsTuple a its.toArray from p') hk0 hk1 fun h' he ho hsz hk => wpAny_pyIter_enum he ?_
      have I2 : Inv X pins σ H1 { s1 with heap := h' } := I1.kept (t' := s1.toks) hk
      have he0 : IsEnum h' (s1.heap.objs.size + 1) s1.heap.objs.size (k + ((0 : Nat) : Int)) .none := by
        rw [show k + ((0 : Nat) : Int) = k by simp]; exact he
      refine ⟨s1.heap.objs.size + 1, [s1.heap.objs.size + 1, s1.heap.objs.size], _, _, H1, rfl, I2, turn_enumT (a := a) (e := s1.heap.objs.size + 1) (it := s1.heap.objs.size), ⟨⟨.none, he0⟩, ⟨_, ho, rfl, rfl⟩, Nat.succ_ne_self _, Nat.ne_of_lt hal, (Nat.ne_of_lt (Nat.lt_succ_of_lt hal)).symm⟩, fun b hb => ?_, q⟩
      have e' : b = s1.heap.objs.size + 1 ∨ b = s1.heap.objs.size := by simpa using hb
      have hle : s1.heap.objs.size ≤ b := by
        rcases e' with z | z
        · rw [z]; exact Nat.le_add_right _ _
        · rw [z]; exact Nat.le_refl _
      exact I1.fpOk hle (I1.hok.fresh hle)
/-- a loop over enumerate(t, k) -/
theorem for_en {K : PySem.W.Frag} {a : Addr} {k : Int} {xs : List V} {g : TG} {tb : TS} {D : Ends} {σ : L2.St} {H : Hp} (Pv : Nat → L2.St → Hp → Prop) (h0 : Pv 0 σ H) (hq : ∀ i σ H, Pv i σ H → SqT K H a xs)
    (hs : ∀ (i : Nat) (x : V) (T : Addr) (σ : L2.St) (H : Hp), xs[i]? = some x → Pv i σ H → H T = none → g (.ref T) σ (upd H T (.tup [.int (k + (i : Nat)), x])) fun σ2 H2 => tb { D with nx := Pv (i + 1), ct := Pv (i + 1), bk := D.nx } σ2 H2) (hd : ∀ σ H, Pv xs.length σ H → D.nx σ H) :
    ∃ W : Nat → Nat → L2.St → Hp → Prop, (∃ m, W 0 m σ H) ∧ ∀ i m σ H, W i m σ H →
      ((ItEn K a k).stop i H ∧ D.nx σ H) ∨ ((ItEn K a k).go i H ∧ ∃ N : L2.St → Hp → Prop, (∀ σ' H', N σ' H' → ∃ m', m' < m ∧ W (i + 1) m' σ' H') ∧ ∀ v H', (ItEn K a k).yld i H v H' → g v σ H' fun σ2 H2 => tb { D with nx := N, ct := N, bk := D.nx } σ2 H2) := by
  refine ⟨fun i m σ H => m = xs.length - i ∧ i ≤ xs.length ∧ Pv i σ H, ⟨xs.length, rfl, Nat.zero_le _, h0⟩, ?_⟩
  rintro i m σ H ⟨rfl, hi, p⟩
  have qx := hq i σ H p
  by_cases hlt : i < xs.length
  · have hx : xs[i]? = some xs[i] := List.getElem?_eq_getElem hlt
    refine .inr ⟨⟨xs, _, qx, hx⟩, Pv (i + 1), fun σ' H' p' => ⟨xs.length - (i + 1), by omega, rfl, hlt, p'⟩, fun v H' y => ?_⟩
    obtain ⟨T, x', rfl, hT, rfl, f1⟩ := y
    exact hs i x' T σ H (f1 xs qx) p hT
  · have e : i = xs.length := by omega
    subst e
    exact .inl ⟨⟨xs, qx, rfl⟩, hd σ H p⟩
end SL

set_option Elab.async false
set_option linter.all false
set_option maxRecDepth 100000
set_option maxHeartbeats 1000000
/-! Own layer 77: the lines that all ways have; settled words only get more. -/
namespace SL
open PySem PySem.Spec PyProof.Rows L2
theorem prs_snd : ∀ {lo : Nat} {es : List Nat} {q : Nat × Nat}, q ∈ prs lo es → q.2 ∈ es
  | _, [], _, h => nomatch h
  | lo, e :: es, q, h => by
    rcases List.mem_cons.mp h with h | h
    · rw [h]; exact List.mem_cons_self ..
    · exact List.mem_cons_of_mem _ (prs_snd h)
theorem Pth.prs_iff {f : Nat → Nat} {e : Nat} {es : List Nat} (h : Pth f e es) {q : Nat × Nat} : q ∈ prs 0 es ↔ q.2 ∈ es ∧ q.1 = f q.2 := by
  induction h with
  | z => exact ⟨fun z => (nomatch z), fun z => (nomatch z.1)⟩
  | @s e es h0 hp ih =>
    rw [prs_push, List.mem_append, List.mem_append, ih, List.mem_singleton, List.mem_singleton]
    have hl : es.getLast?.getD 0 = f e := hp.last
    rw [hl]
    constructor
    · rintro (⟨h1, h2⟩ | h)
      · exact ⟨.inl h1, h2⟩
      · rw [h]; exact ⟨.inr rfl, rfl⟩
    · rintro ⟨h1 | h1, h2⟩
      · exact .inl ⟨h1, h2⟩
      · exact .inr (Prod.ext (by rw [h2, h1]) h1)
section
variable {ns : List Int} {m : Int}
theorem blay_front (hF : Fit m ns) (hm : 1 ≤ m) {e : Nat} (h : SetEnd ns m e) (he : e ≤ ns.length) : ∃ t, blay ns m = pathOf ns m e ++ t ∧ ∀ y ∈ t, e < y := by
  by_cases h0 : 0 < ns.length
  · rcases best_alone hF h0 with hs | hb
    · obtain ⟨a1, a2, a3⟩ := lB_spec hF h0
      obtain ⟨t, ht, hy⟩ := anc_prefix hF (by omega) (h.com _ hs)
      have hle := (h.com _ hs).le hF (by omega)
      refine ⟨t ++ [ns.length], ?_, fun y z => ?_⟩
      · unfold blay
        rw [if_neg (fun z => by rw [z] at h0; simp at h0), ht, List.append_assoc]
      · rcases List.mem_append.mp z with z | z
        · exact hy y z
        · obtain rfl := List.mem_singleton.mp z
          omega
    · obtain ⟨t, ht, hy⟩ := anc_prefix hF (Nat.le_refl _) (h.com _ (start_end hF hm))
      exact ⟨t, by rw [hb, ht], hy⟩
  · have e0 : ns = [] := List.length_eq_zero_iff.mp (by omega)
    subst e0
    have : e = 0 := Nat.le_zero.mp he
    subst this
    exact ⟨[], rfl, fun y z => nomatch z⟩
theorem path_front_of (hF : Fit m ns) {e s : Nat} (h : SetEnd ns m e) (hs : StartAt ns m s) {q : Nat × Nat} (he : e ≤ ns.length) (hq : q ∈ prs 0 (pathOf ns m e)) : q ∈ prs 0 (pathOf ns m s) := by
  obtain ⟨h1, h2⟩ := (pathOf_pth hF he).prs_iff.mp hq
  obtain ⟨t, ht, _⟩ := anc_prefix hF (hs.le hF) (h.com _ hs)
  exact (pathOf_pth hF (hs.le hF)).prs_iff.mpr ⟨by rw [ht]; exact List.mem_append_left _ h1, h2⟩
/-- the lines of the best layout that all ways have are the settled ones -/
theorem common_lines (hF : Fit m ns) (hm : 1 ≤ m) {e : Nat} (h : SetEnd ns m e) (he : e ≤ ns.length) {p : Nat × Nat → Bool} (hp : ∀ q ∈ prs 0 (blay ns m), p q = true ↔ ∀ s, StartAt ns m s → q ∈ prs 0 (pathOf ns m s)) :
    (prs 0 (blay ns m)).filter p = prs 0 (pathOf ns m e) := by
  obtain ⟨t, ht, hy⟩ := blay_front hF hm h he
  rw [ht, prs_app] at hp ⊢
  rw [List.filter_append, List.filter_eq_self.mpr, List.filter_eq_nil_iff.mpr, List.append_nil]
  · intro q hq z
    have hq2 := prs_snd hq
    have := hy _ hq2
    have hc := (hp q (List.mem_append_right _ hq)).mp z
    have := h.top q.2 fun s hs => .inr (prs_snd (hc s hs))
    omega
  · intro q hq
    exact (hp q (List.mem_append_left _ hq)).mpr fun s hs => path_front_of hF h hs he hq
/-- settled words only get more -/
theorem setEnd_more {gs : List Int} (hF : Fit m (ns ++ gs)) {e e' : Nat} (h : SetEnd ns m e) (he : e ≤ ns.length) (h' : SetEnd (ns ++ gs) m e') (hm : 1 ≤ m) : e ≤ e' := by
  have key : ∀ (fs : List Int) (s' : Nat) (T : List Nat), fs ≠ [] → Fit m (ns ++ (gs ++ fs)) → blay (ns ++ (gs ++ fs)) m = pathOf (ns ++ gs) m s' ++ T → (∀ y ∈ T, ns.length < y) → Anc (ns ++ gs) m s' e := by
    intro fs s' T hfs hF2 hb hT
    obtain ⟨s, hs, hf⟩ := fut_any (ns := ns) hF2 (by simp [hfs])
    rcases h.com s hs with z | z
    · exact .inl z
    · rw [← hf] at z
      obtain ⟨z1, z2⟩ := List.mem_filter.mp z
      rw [hb] at z1
      rcases List.mem_append.mp z1 with z1 | z1
      · exact .inr z1
      · have := hT _ z1
        omega
  refine h'.top e ?_
  rintro s' ⟨v, v1, v2, hs | hs⟩
  · refine key [v, m] s' _ (by simp) ?_ (by rw [← List.append_assoc, fut_closed hF v1 v2, hs]) ?_
    · refine fit_of fun x hx => ?_
      rw [← List.append_assoc] at hx
      rcases List.mem_append.mp hx with hx | hx
      · exact fit_all hF x hx
      · simp at hx
        rcases hx with hx | hx <;> omega
    · intro y hy
      simp at hy
      omega
  · refine key [v] s' _ (by simp) ?_ (by rw [← List.append_assoc, fut_open hF v1 v2, hs]) ?_
    · refine fit_of fun x hx => ?_
      rw [← List.append_assoc] at hx
      rcases List.mem_append.mp hx with hx | hx
      · exact fit_all hF x hx
      · simp at hx
        omega
    · intro y hy
      simp at hy
      omega
theorem setEnd_takes (hF : Fit m ns) (hm : 1 ≤ m) {i j e e' : Nat} (hij : i ≤ j) (h : SetEnd (ns.take i) m e) (he : e ≤ (ns.take i).length) (h' : SetEnd (ns.take j) m e') : e ≤ e' := by
  have es : ns.take j = ns.take i ++ (ns.take j).drop i := by
    rw [show ns.take i = (ns.take j).take i by rw [List.take_take, Nat.min_eq_left hij], List.take_append_drop]
  have hF2 := fit_take hF j
  rw [es] at h' hF2
  exact setEnd_more hF2 h he h' hm
theorem path_take (hF : Fit m ns) {a : Nat} (ha : a ≤ ns.length) : pathOf (ns.take a) m a = pathOf ns m a := by
  have e : ns.take a ++ ns.drop a = ns := List.take_append_drop ..
  have hF2 : Fit m (ns.take a ++ ns.drop a) := by rw [e]; exact hF
  have := pathOf_pre hF2 (e := a) (by rw [List.length_take]; omega)
  rw [e] at this
  exact this.symm
/-- the ends of all ways tell the states -/
theorem tells_ways {L : List Nat} (hL : StartsL ns m L) : Tells ns m (L.map (pathOf ns m) ++ [blay ns m]) where
  all := fun e he => by
    rcases List.mem_append.mp he with he | he
    · obtain ⟨b, hb, rfl⟩ := List.mem_map.mp he
      exact .inr ⟨b, (hL.mem b).mp hb, rfl⟩
    · exact .inl (List.mem_singleton.mp he)
  own := List.mem_append_right _ (List.mem_singleton.mpr rfl)
  st := fun b hb => List.mem_append_left _ (List.mem_map.mpr ⟨b, (hL.mem b).mpr hb, rfl⟩)
end
/-! ### a pair in a tuple of pairs -/
def rInDT (K : PySem.W.Frag) : R2 := fun x y H Q => ∃ d ds, Dp K H x d ∧ Dp K H y (.tuple ds) ∧ SeqAt.shaped d = true ∧ SeqAt.shaped (.tuple ds) = true ∧ Q (.bl (ds.any fun z => PyData.eqv z d)) H
theorem op_inDT {X : Cx} (hu : X.A.units + 65 < cLine) : OpR X (compareOp .In) (rInDT X.K) := by
  intro pins s σ H x y v u Q I rx ry h
  obtain ⟨d, ds, hd, he, sd, se, q⟩ := h
  obtain ⟨as, r1⟩ := Dp.reads I d x v hd rx
  obtain ⟨bs, r2⟩ := Dp.reads I (.tuple ds) y u he ry
  exact SeqAt.in_tuple_reads r2 r1 (SeqAt.canLay_of_shaped se) (SeqAt.canLay_of_shaped sd) (PyProof.Rows.room_in_shaped sd hu) ⟨.bl _, H, I, rfl, q⟩
theorem eqv_pr (p q : Nat × Nat) : PyData.eqv (prD p) (prD q) = decide (p = q) := by
  obtain ⟨a, b⟩ := p
  obtain ⟨c, d⟩ := q
  simp only [prD, PyData.eqv, PyData.eqvAll, Bool.and_true]
  by_cases h1 : a = c <;> by_cases h2 : b = d <;> simp [h1, h2] <;> omega
theorem any_pr (ps : List (Nat × Nat)) (q : Nat × Nat) : ((ps.map prD).any fun z => PyData.eqv z (prD q)) = decide (q ∈ ps) := by
  induction ps with
  | nil => rfl
  | cons p ps ih =>
    rw [List.map_cons, List.any_cons, ih, eqv_pr]
    by_cases h : p = q
    · simp [h]
    · have h2 : ¬ q = p := fun z => h z.symm
      simp [h, h2]
theorem dp_pr {K : PySem.W.Frag} {H : Hp} {a : Addr} {p : Nat × Nat} (h : PrAt H a (pairV p)) : Dp K H (.ref a) (prD p) := .tup (SqT.of h) (.cons (.int _) (.cons (.int _) .nil))
theorem shaped_pr (p : Nat × Nat) : SeqAt.shaped (prD p) = true := by
  unfold prD
  rfl
/-! ### a comprehension in a comprehension -/
theorem lookup_rel {env : Env} : ∀ {names : List (Str × NameKind)} {x : Str}, (names.lookup x = some .cell ∨ names.lookup x = some .free) →
    ((names.map fun (n, k) => if (k == NameKind.free && env.scope.kind == .function && env.kindOf n == some .cell) then (n, NameKind.cell) else (n, k)).lookup x = some .cell ∨
      (names.map fun (n, k) => if (k == NameKind.free && env.scope.kind == .function && env.kindOf n == some .cell) then (n, NameKind.cell) else (n, k)).lookup x = some .free)
  | [], x, h => by simp at h
  | (n, k) :: r, x, h => by
    have ih := @lookup_rel env r x
    rw [List.map_cons]
    by_cases hx : (x == n) = true
    · have e : List.lookup x ((n, k) :: r) = some k := by simp [List.lookup, hx]
      rw [e] at h
      by_cases hc : (k == NameKind.free && env.scope.kind == .function && env.kindOf n == some .cell) = true
      · left
        simp [hc, List.lookup, hx]
      · simp [hc, List.lookup, hx]
        simpa using h
    · have e : List.lookup x ((n, k) :: r) = r.lookup x := by simp [List.lookup, hx]
      rw [e] at h
      have ih := ih h
      by_cases hc : (k == NameKind.free && env.scope.kind == .function && env.kindOf n == some .cell) = true
      · simpa [hc, List.lookup, hx] using ih
      · simpa [hc, List.lookup, hx] using ih
theorem blkOk_in {N : List Str} {sc1 sc2 : Scope} {env : Env} {own : List (Str × Nat)} (h : blkC N sc1 sc2 own = true) : BlkOk N (relabel sc1 env) sc2 own :=
  let b := blkOk_by h
  ⟨b.kind, b.uniq, b.ix, fun y hy e => lookup_rel (b.free y hy e), b.own⟩
theorem Room.u65 {k : Nat} {A : Around} (r : Room k A) : A.units + 65 < cLine := by
  have := r.un
  omega
def spAhead (K : PySem.W.Frag) : Sp := fun vs H Q _ => ∃ (m : Int) (t r : Addr) (ns fs : List Int), vs = [.int m, .ref t, .ref r] ∧ SqT K H t (ns.map V.int) ∧ SqT K H r (fs.map V.int) ∧ Fit m (ns ++ fs) ∧ 1 ≤ m ∧ m ≤ 1000000000 ∧ (ns ++ fs).length ≤ 500 ∧
  ∀ H' a, Same H H' → SqT K H' a ((endsF ns m fs).map natV) → Q (.ref a) H'
def spRight82 : Sp := fun vs H Q _ => ∃ (p : Addr) (m : Int) (n : Nat), vs = [.ref p, .int m] ∧ PotAt H p n ∧ n < 500000 ∧ 1 ≤ m ∧ m ≤ 1000000000 ∧ ∀ H', Kp p H H' → PotAt H' p (n + 500) → Q (.bl true) H'
end SL

set_option Elab.async false
set_option linter.all false
set_option maxRecDepth 100000
set_option maxHeartbeats 1000000
/-! Own layer 78: a dict of starts with the lists of ends met; what states say. -/
namespace SL
open PySem PySem.Spec PyProof.Rows L2
theorem mem_putK {κ : Type} [DecidableEq κ] {kvs : List (κ × V)} {k : κ} {v : V} {kv : κ × V} (h : kv ∈ putK kvs k v) : kv = (k, v) ∨ kv ∈ kvs := by
  unfold putK at h
  split at h
  · obtain ⟨kv', h1, h2⟩ := List.mem_map.mp h
    split at h2
    · rename_i e
      exact .inl (by rw [← h2, e])
    · exact .inr (by rw [← h2]; exact h1)
  · rcases List.mem_append.mp h with h | h
    · exact .inr h
    · exact .inl (List.mem_singleton.mp h)
theorem len_putK {κ : Type} [DecidableEq κ] {kvs : List (κ × V)} {k : κ} {v : V} : (putK kvs k v).length ≤ kvs.length + 1 := by
  unfold putK
  split
  · rw [List.length_map]; omega
  · rw [List.length_append]; exact Nat.le_refl _
theorem valV_mem {κ : Type} [DecidableEq κ] {kvs : List (κ × V)} {k : κ} {v : V} (h : valV kvs k = some v) : (k, v) ∈ kvs := by
  unfold valV at h
  obtain ⟨kv, h1, h2⟩ := Option.map_eq_some_iff.mp h
  have h3 := List.find?_some h1
  have h4 := List.mem_of_find?_eq_some h1
  have : kv.1 = k := of_decide_eq_true h3
  rw [← this, ← h2]
  exact h4
/-- each start with the ends of its way -/
def MetOk (ns : List Int) (m : Int) (p d : Addr) (G : Hp) (kvs : List (Key × V)) : Prop := ∀ kv ∈ kvs, ∃ (s : Nat) (a : Addr), kv = (Sum.inl (s : Int), V.ref a) ∧ G a = some (.lst ((pathOf ns m s).map natV)) ∧ a ≠ p ∧ a ≠ d
section
variable {ns : List Int} {m : Int} {p d : Addr} {G G' : Hp} {kvs : List (Key × V)}
theorem MetOk.nil : MetOk ns m p d G [] := fun _ z => nomatch z
theorem MetOk.kp (h : MetOk ns m p d G kvs) (k : Kp p G G') : MetOk ns m p d G' kvs := fun kv hk => by
  obtain ⟨s, a, e, h1, h2, h3⟩ := h kv hk
  exact ⟨s, a, e, k _ _ h2 h1, h2, h3⟩
theorem MetOk.same (h : MetOk ns m p d G kvs) (k : Same G G') : MetOk ns m p d G' kvs := h.kp (Kp.same k)
theorem MetOk.put {s : Nat} {a : Addr} {o : HO} (h : MetOk ns m p d G kvs) (ha : G a = some (.lst ((pathOf ns m s).map natV))) (n1 : a ≠ p) (n2 : a ≠ d) : MetOk ns m p d (upd G d o) (putK kvs (Sum.inl (s : Int)) (.ref a)) := fun kv hk => by
  rcases mem_putK hk with e | hk
  · exact ⟨s, a, e, by rw [upd_ne n2]; exact ha, n1, n2⟩
  · obtain ⟨s, a, e, h1, h2, h3⟩ := h kv hk
    exact ⟨s, a, e, by rw [upd_ne h3]; exact h1, h2, h3⟩
theorem MetOk.val {s : Nat} {a : Addr} (h : MetOk ns m p d G kvs) (ha : G a = some (.lst ((pathOf ns m s).map natV))) : ∃ b, (valV kvs (Sum.inl (s : Int))).getD (.ref a) = .ref b ∧ G b = some (.lst ((pathOf ns m s).map natV)) := by
  match hv : valV kvs (Sum.inl (s : Int)) with
  | none => exact ⟨a, rfl, ha⟩
  | some v =>
    obtain ⟨s', b, e, h1, _⟩ := h _ (valV_mem hv)
    injection e with e1 e2
    injection e1 with e1
    have : s = s' := by omega
    subst this
    exact ⟨b, by rw [e2]; rfl, h1⟩
theorem st_always {k : Nat} (h : stS ns m k = "always") : InAll ns m k := by
  unfold stS at h
  split at h
  · exact absurd h (by decide +kernel)
  · split at h
    · assumption
    · exact absurd h (by decide +kernel)
theorem st_never {k : Nat} (h : stS ns m k = "never") : InNone ns m k := by
  unfold stS at h
  split at h
  · assumption
  · split at h
    · exact absurd h (by decide +kernel)
    · exact absurd h (by decide +kernel)
theorem st_some {k : Nat} : stS ns m k = "sometimes" ↔ ¬ InNone ns m k ∧ ¬ InAll ns m k := by
  unfold stS
  split
  · rename_i h
    exact ⟨fun z => absurd z (by decide +kernel), fun z => absurd h z.1⟩
  · split
    · rename_i h
      exact ⟨fun z => absurd z (by decide +kernel), fun z => absurd h z.2⟩
    · rename_i h1 h2
      exact ⟨fun _ => ⟨h1, h2⟩, fun _ => rfl⟩
theorem startF_path {fs : List Int} (hF : Fit m (ns ++ fs)) (hfs : fs ≠ []) : StartAt ns m (startF ns fs m) ∧ endsF ns m fs = pathOf ns m (startF ns fs m) := by
  obtain ⟨s, hs, e⟩ := fut_any hF hfs
  have hFn := fit_left hF
  have : startF ns fs m = s := by
    unfold startF
    rw [e, lastN_path hFn (hs.le hFn)]
  rw [this]
  exact ⟨hs, e⟩
theorem tel_two {RO RC : List (Int × Int × Nat)} {t : List Int × List Nat} (h : t ∈ telL ns m RO RC) : t.1.length ≤ 2 := by
  unfold telL at h
  rcases List.mem_cons.mp h with h | h
  · rw [h]; exact Nat.zero_le _
  · rcases List.mem_append.mp h with h | h
    · obtain ⟨q, _, rfl⟩ := List.mem_map.mp h
      exact Nat.le_succ 1
    · obtain ⟨q, _, rfl⟩ := List.mem_map.mp h
      exact Nat.le_refl 2
end
def spSmall76 (K : PySem.W.Frag) : Sp := fun vs H Q _ => ∃ (m : Int) (t : Addr) (ns : List Int), vs = [.int m, .ref t] ∧ SqT K H t (ns.map V.int) ∧ Fit m ns ∧ 1 ≤ m ∧ m ≤ 1000000000 ∧ ns.length ≤ 10 ∧ ∀ H', Same H H' → Q (.bl true) H'
end SL

set_option Elab.async false
set_option linter.all false
set_option maxRecDepth 100000
set_option maxHeartbeats 1000000
/-! Own layer 79: a dict that counts ends. -/
namespace SL
open PySem PySem.Spec PyProof.Rows L2
/-- the dict counts f -/
def CntOk (kvs : List (Key × V)) (f : Nat → Nat) : Prop := ∀ k : Nat, (valV kvs (Sum.inl (k : Int))).getD (V.int 0) = V.int (f k : Int)
theorem CntOk.nil : CntOk [] fun _ => 0 := fun k => rfl
theorem CntOk.put {kvs : List (Key × V)} {f : Nat → Nat} {e : Nat} (h : CntOk kvs f) : CntOk (putK kvs (Sum.inl (e : Int)) (V.int ((f e : Int) + 1))) fun k => f k + if k = e then 1 else 0 := fun k => by
  rw [valV_put]
  show _ = V.int ((f k + if k = e then 1 else 0 : Nat) : Int)
  by_cases hk : k = e
  · subst hk
    rw [if_pos rfl, if_pos rfl]
    rfl
  · rw [if_neg (fun z => hk (by injection z with z; omega)), if_neg hk]
    exact h k
theorem CntOk.congr {kvs : List (Key × V)} {f g : Nat → Nat} (h : CntOk kvs f) (e : ∀ k, f k = g k) : CntOk kvs g := fun k => by rw [← e k]; exact h k
/-- the lists counted so far, and the first j ends of the one under way -/
def cntW (L : List (List Nat)) (p : List Nat) (k : Nat) : Nat := cntE L k + if k ∈ p then 1 else 0
theorem cntW_step {L : List (List Nat)} {p : List Nat} {e : Nat} (hp : e ∉ p) (k : Nat) : (cntW L p k + if k = e then 1 else 0) = cntW L (p ++ [e]) k := by
  unfold cntW
  by_cases hk : k = e
  · subst hk
    rw [if_neg hp, if_pos rfl, if_pos (List.mem_append_right _ (List.mem_singleton.mpr rfl))]
  · rw [if_neg hk, Nat.add_zero]
    by_cases h : k ∈ p
    · rw [if_pos h, if_pos (List.mem_append_left _ h)]
    · rw [if_neg h, if_neg (fun z => by
        rcases List.mem_append.mp z with z | z
        · exact h z
        · exact hk (List.mem_singleton.mp z))]
theorem cntW_done {L : List (List Nat)} {p : List Nat} (k : Nat) : cntW L p k = cntW (L ++ [p]) [] k := by
  unfold cntW cntE
  rw [List.countP_append, List.countP_singleton]
  by_cases h : k ∈ p
  · simp [h]
  · simp [h]
theorem cntE_ends {ns : List Int} {m : Int} (Fs : List (List Int)) {k : Nat} (hk : k ≤ ns.length) : cntE (Fs.map fun f => blay (ns ++ f) m) k = cntE (Fs.map (endsF ns m)) k := by
  unfold cntE
  rw [List.countP_map, List.countP_map]
  refine List.countP_congr fun f _ => ?_
  show decide (k ∈ blay (ns ++ f) m) = true ↔ decide (k ∈ endsF ns m f) = true
  rw [decide_eq_true_iff, decide_eq_true_iff]
  exact mem_endsF hk
theorem tyX_tup {K : PySem.W.Frag} {H : Hp} {a : Addr} {xs : List V} (h : SqT K H a xs) : TyX K H (.ref a) (.type "tuple") := by
  rcases h with (h | ⟨o, h⟩) | ⟨o, its, n, h, c, _⟩
  · exact .base (.tup h)
  · exact .fTuple h
  · exact .kTuple h c
theorem all_any {ns fs : List Int} {m : Int} (hF : Fit m (ns ++ fs)) {k : Nat} (h : InAll ns m k) : k ∈ endsF ns m fs := by
  by_cases hf : fs = []
  · rw [hf, endsF_nil (fit_left hF)]
    exact h.1
  · obtain ⟨b, hb, e⟩ := endsF_some hF hf
    rw [e]
    exact h.2 b hb
theorem none_any {ns fs : List Int} {m : Int} (hF : Fit m (ns ++ fs)) {k : Nat} (h : InNone ns m k) : k ∉ endsF ns m fs := by
  by_cases hf : fs = []
  · rw [hf, endsF_nil (fit_left hF)]
    exact h.1
  · obtain ⟨b, hb, e⟩ := endsF_some hF hf
    rw [e]
    exact h.2 b hb
end SL

set_option Elab.async false
set_option linter.all false
set_option maxRecDepth 100000
set_option maxHeartbeats 4000000
/-! Own layer 80: list(zip(a, b)) as a tracked list. -/
namespace SL
open PySem PySem.Spec PyProof.Rows L2
theorem zip_loopA {X : Cx} {pins : List (Addr × Obj)} {σ : L2.St} {A : Around} (hh : A.handled = none) {z TI TO i1 i2 a b S : Addr} (D : ZipApart z TI TO i1 i2 a b) (nS : S ≠ z ∧ S ≠ TI ∧ S ≠ TO ∧ S ≠ i1 ∧ S ≠ i2) {xs ys : List V} {res : Value} {R : Result → Shared → Prop} (hn : min xs.length ys.length ≤ sizeLine) :
    ∀ (k i : Nat) (s : Shared) (H : Hp) (acc : Array Value) (c : Nat) (rs : List V), min xs.length ys.length - i = k → i ≤ min xs.length ys.length → Inv X pins σ H s → SqT X.K H a xs → SqT X.K H b ys → ZipSt s.heap z TI TO i1 i2 a b [S, z, TI, TO, i1, i2] i →
      (∀ b ∈ [S, z, TI, TO, i1, i2], FpOk X pins H b) → s.heap.get? S = some { cls := .type "list", dict := none, data := .seq acc c, slots := #[] } → Vals rs acc.toList → AllAt (PrAt H) rs ((xs.zip ys).take i) →
      (∀ s' H' acc' c' rs', Inv X pins σ H' s' → Same H H' → FpOk X pins H' S → s'.heap.get? S = some { cls := .type "list", dict := none, data := .seq acc' c', slots := #[] } → Vals rs' acc'.toList → AllAt (PrAt H') rs' (xs.zip ys) → R (.ok (.ret res)) s') →
      codeAny (model X.prog X.w) A (.builtin "list.extend.loop" ⟨[.ref S, .ref z, res], []⟩) R s := by
  intro k
  induction k with
  | zero =>
    intro i s H acc c rs hk hi I hqx hqy st hf hS rv hA hR
    obtain ⟨n1, n2, n3, n4, n5⟩ := nS
    have hin : i = min xs.length ys.length := by omega
    obtain ⟨its, rvx, p, _⟩ := I.tuple hqx
    obtain ⟨its2, rvy, p2, _⟩ := I.tuple hqy
    have l1 := rvx.length
    have l2 := rvy.length
    have hend : its.toArray[i]? = none ∨ its2.toArray[i]? = none := by
      by_cases h : xs.length ≤ ys.length
      · exact .inl (by simp; omega)
      · exact .inr (by simp; omega)
    have hall : (xs.zip ys).take i = xs.zip ys := List.take_of_length_le (by rw [List.length_zip]; omega)
    rw [hall] at hA
    obtain ⟨hTI, h1, h2, _, hz⟩ := st
    have fin : ∀ h' : Heap, (∀ b o, b ∉ [z, TI, TO, i1, i2] → s.heap.get? b = some o → h'.get? b = some o) → R (.ok (.ret res)) { s with heap := h' } := fun h' kp => by
      refine hR _ H acc c rs (I.turnedL (t' := s.toks) (ch := [z, TI, TO, i1, i2]) kp fun b hb => hf b (List.mem_cons_of_mem _ hb)) (Same.refl H) (hf S (List.mem_cons_self ..)) (kp _ _ ?_ hS) rv hA
      simp [n1, n2, n3, n4, n5]
    refine codeAny_builtin F.entry_extend_loop ?_
    rw [Around.under_plainId F.plain_extend_loop _]
    show wpAny _ A.in1 (pyNext (.ref z) >>= _) _ _ s
    rcases hz with ⟨hz, x0, y0, hTO⟩ | ⟨T, f, oT, hz, hT, hTc⟩
    · refine wpAny_bind (RZ.pyNext_zipT_end (A := A.in1) hh D hz hTI hTO h1 h2 p p2 hend fun h' hk => wpAny_pure (fin h' fun b o hb e => ?_))
      exact hk b o (fun q => hb (by simp [q])) (fun q => hb (by simp [q])) (fun q => hb (by simp [q])) (fun q => hb (by simp [q])) e
    · refine wpAny_bind (zheld_end (A := A.in1) hh D hz hT hTI h1 h2 p p2 hend fun h' hk => wpAny_pure (fin h' fun b o hb e => ?_))
      exact hk b o (fun q => hb (by simp [q])) (fun q => hb (by simp [q])) (fun q => hb (by simp [q])) e
  | succ k ih =>
    intro i s H acc c rs hk hi I hqx hqy st hf hS rv hA hR
    have hlx : i < xs.length := by omega
    have hly : i < ys.length := by omega
    obtain ⟨its, rvx, p, _⟩ := I.tuple hqx
    obtain ⟨its2, rvy, p2, _⟩ := I.tuple hqy
    obtain ⟨u, hu, ru⟩ := rvx.get (List.getElem?_eq_getElem hlx)
    obtain ⟨u2, hu2, ru2⟩ := rvy.get (List.getElem?_eq_getElem hly)
    have st0 := st
    obtain ⟨hTI, h1, h2, ⟨oTO, eTO⟩, hz⟩ := st
    have hSlt := Heap.lt_size hS
    have hal : rs.length = acc.size := by rw [rv.length, Array.length_toList]
    have hai : rs.length = i := by rw [hA.1, List.length_take, List.length_zip]; omega
    have next : ∀ h' : Heap, (∀ b o, b ∉ [z, TI, TO, i1, i2] → s.heap.get? b = some o → h'.get? b = some o) → IsPair h' s.heap.objs.size u u2 → ZipSt h' z TI TO i1 i2 a b [S, z, TI, TO, i1, i2] (i + 1) →
        wpAny (model X.prog X.w) A.in1 (updateSeq S (·.push (.ref s.heap.objs.size))) (fun _ s' => codeAny (model X.prog X.w) A (.builtin "list.extend.loop" ⟨[.ref S, .ref z, res], []⟩) R s') (fun e s' => R (.error e) s') { s with heap := h' } := fun h' kp hT st' => by
      have hS' := kp S _ (by simp [nS]) hS
      have new : ObjOk X.prog X.w (upd H s.heap.objs.size (.tup [xs[i], ys[i]])) h' s.heap.objs.size (.tup [xs[i], ys[i]]) :=
        ⟨by show 2 ≤ sizeLine; decide, [u, u2], .cons ru (.cons ru2 .nil), ⟨_, hT, rfl, _, rfl⟩⟩
      have I1 : Inv X pins σ (upd H s.heap.objs.size (.tup [xs[i], ys[i]])) { s with heap := h' } :=
        I.turnedNew (t' := s.toks) (ch := [z, TI, TO, i1, i2]) kp (fun b hb => hf b (List.mem_cons_of_mem _ hb)) (Nat.le_refl _) new
      have hfr : H s.heap.objs.size = none := I.hok.fresh (Nat.le_refl _)
      have fpk : ∀ b ∈ [S, z, TI, TO, i1, i2], FpOk X pins (upd H s.heap.objs.size (.tup [xs[i], ys[i]])) b := fun b hb => by
        have q := hf b hb
        refine ⟨?_, q.2⟩
        rw [upd_ne ?_]
        · exact q.1
        · have lt : b < s.heap.objs.size := by
            obtain ⟨_, e1, _⟩ := id h1
            obtain ⟨_, e2, _⟩ := id h2
            have ez : z < s.heap.objs.size := by rcases hz with ⟨e, _⟩ | ⟨_, _, _, e, _⟩ <;> exact Heap.lt_size e
            have e' : b = S ∨ b = z ∨ b = TI ∨ b = TO ∨ b = i1 ∨ b = i2 := by simpa using hb
            rcases e' with q | q | q | q | q | q
            · rw [q]; exact hSlt
            · rw [q]; exact ez
            · rw [q]; exact Heap.lt_size hTI
            · rw [q]; exact Heap.lt_size eTO
            · rw [q]; exact Heap.lt_size e1
            · rw [q]; exact Heap.lt_size e2
          exact Nat.ne_of_lt lt
      refine wpAny_updateSeq hS' rfl ?_ (by rw [← hal, hai]; omega) (by show (acc.push _).size ≤ sizeLine + 1; rw [Array.size_push, ← hal, hai]; omega)
      refine ih (i + 1) _ (upd H s.heap.objs.size (.tup [xs[i], ys[i]])) (acc.push (.ref s.heap.objs.size)) _ (rs ++ [.ref s.heap.objs.size]) (by omega) (by omega)
        (I1.turnedL (t' := s.toks) (ch := [S]) (fun b o hb e => ?_) fun b hb => fpk b (by rw [List.mem_singleton.mp hb]; exact List.mem_cons_self ..)) (Same.tup (Same.new hfr) hqx) (Same.tup (Same.new hfr) hqy)
        (st'.keep (fun b o hb e => ?_) (List.mem_cons_self ..) nS) fpk (Heap.get?_update_self _ hS' rfl) ?_ ((hA.mono fun a p (h : PrAt H a p) => (new_past hfr h : PrAt _ a p)).push2 (List.getElem?_eq_getElem hlx) (List.getElem?_eq_getElem hly) upd_same)
        fun s' H' acc' c' rs' I' sm fS'' hS'' rv' hA' => hR s' H' acc' c' rs' I' (same_tr (Same.new hfr) sm) fS'' hS'' rv' hA'
      · exact (Heap.get?_update_other _ _ (Ne.symm (fun e => hb (List.mem_singleton.mpr e)))).trans e
      · exact (Heap.get?_update_other _ _ (Ne.symm hb)).trans e
      · rw [Array.toList_push]
        exact rv.append (.cons rfl .nil)
    have nf : ∀ b ∈ [S, z, TI, TO, i1, i2], b < s.heap.objs.size := fun b hb => by
      obtain ⟨_, e1, _⟩ := id h1
      obtain ⟨_, e2, _⟩ := id h2
      have ez : z < s.heap.objs.size := by rcases hz with ⟨e, _⟩ | ⟨_, _, _, e, _⟩ <;> exact Heap.lt_size e
      have e' : b = S ∨ b = z ∨ b = TI ∨ b = TO ∨ b = i1 ∨ b = i2 := by simpa using hb
      rcases e' with q | q | q | q | q | q
      · rw [q]; exact hSlt
      · rw [q]; exact ez
      · rw [q]; exact Heap.lt_size hTI
      · rw [q]; exact Heap.lt_size eTO
      · rw [q]; exact Heap.lt_size e1
      · rw [q]; exact Heap.lt_size e2
    have nT : s.heap.objs.size ∉ [S, z, TI, TO, i1, i2] := fun hm => Nat.lt_irrefl _ (nf _ hm)
    refine codeAny_builtin F.entry_extend_loop ?_
    rw [Around.under_plainId F.plain_extend_loop _]
    show wpAny _ A.in1 (pyNext (.ref z) >>= _) _ _ s
    rcases hz with ⟨hz, x0, y0, hTO⟩ | ⟨T, f, oT, hz, hT, hTc⟩
    · refine wpAny_bind (RZ.pyNext_zipT_item (A := A.in1) D hz hTI hTO h1 h2 p p2 (x := u) (y := u2) (by simpa using hu) (by simpa using hu2) fun h' z' TO' h1' h2' hT hsz hk => ?_)
      have kp : ∀ b o, b ∉ [z, TI, TO, i1, i2] → s.heap.get? b = some o → h'.get? b = some o := fun b o hb e => hk b o (fun q => hb (by simp [q])) (fun q => hb (by simp [q])) (fun q => hb (by simp [q])) (fun q => hb (by simp [q])) e
      show wpAny _ A.in1 (updateSeq S (·.push (.ref s.heap.objs.size)) >>= _) _ _ _
      refine wpAny_bind (thn (next h' kp hT ⟨?_, h1', h2', ⟨_, TO'⟩, .inr ⟨s.heap.objs.size, false, _, z', hT, nT⟩⟩) fun _ s' q => wpAny_pure ⟨plainId_quiet F.plain_extend_loop _, q⟩)
      exact hk _ _ D.TIz D.TITO D.TIi1 D.TIi2 hTI
    · refine wpAny_bind (zheld_item (A := A.in1) D hz hT hTI h1 h2 p p2 (x := u) (y := u2) (by simpa using hu) (by simpa using hu2) fun h' z' h1' h2' hT2 hk => ?_)
      have kp : ∀ b o, b ∉ [z, TI, TO, i1, i2] → s.heap.get? b = some o → h'.get? b = some o := fun b o hb e => hk b o (fun q => hb (by simp [q])) (fun q => hb (by simp [q])) (fun q => hb (by simp [q])) e
      show wpAny _ A.in1 (updateSeq S (·.push (.ref s.heap.objs.size)) >>= _) _ _ _
      refine wpAny_bind (thn (next h' kp hT2 ⟨?_, h1', h2', ⟨_, hk _ _ D.TOz D.TOi1 D.TOi2 eTO⟩, .inr ⟨T, true, _, z', hk _ _ ?_ ?_ ?_ hT, hTc⟩⟩) fun _ s' q => wpAny_pure ⟨plainId_quiet F.plain_extend_loop _, q⟩)
      · exact hk _ _ D.TIz D.TIi1 D.TIi2 hTI
      · exact fun e => hTc (by simp [e])
      · exact fun e => hTc (by simp [e])
      · exact fun e => hTc (by simp [e])

section
variable {X : Cx} {pins : List (Addr × Obj)} {σ : L2.St} {A : Around} {H : Hp} {s : Shared} {z TI TO i1 i2 a b : Addr} {xs ys : List V}
theorem zip_extendA (hh : A.handled = none) (N : ZipNew X pins H s.heap z TI TO i1 i2 a b) (hn : min xs.length ys.length ≤ sizeLine) (I : Inv X pins σ H s) (hqx : SqT X.K H a xs) (hqy : SqT X.K H b ys) {S : Addr} (hS : s.heap.get? S = some { cls := .type "list", data := .seq #[] }) (fS : FpOk X pins H S) (nS : S ≠ z ∧ S ≠ TI ∧ S ≠ TO ∧ S ≠ i1 ∧ S ≠ i2) {res : Value} {R : Result → Shared → Prop} {Qf : Fin → Shared → Prop} {EE : Value → Shared → Prop}
    (hF : ∀ c' s', c'.quiet = true → codeAny (model X.prog X.w) A c' R s' → Qf (.again c') s')
    (hR : ∀ s' H' acc' c' rs', Inv X pins σ H' s' → Same H H' → FpOk X pins H' S → s'.heap.get? S = some { cls := .type "list", dict := none, data := .seq acc' c', slots := #[] } → Vals rs' acc'.toList → AllAt (PrAt H') rs' (xs.zip ys) → R (.ok (.ret res)) s') :
    wpAny (model X.prog X.w) A.in1 (Builtin.List.listExtendWith (.ref S) (.ref z) res) Qf EE s := by
  have hT : s.TypeIs (.ref z) "zip" := ⟨_, N.hz, rfl⟩
  unfold Builtin.List.listExtendWith
  refine wpAny_bind (wpAny_typeOf hT ?_)
  have h1 : Builtin.List.listSameRef (.ref S) (.ref z) = false := by simp [Builtin.List.listSameRef, nS.1]
  have h2 : (Value.type "zip" == Value.type "list") = false := by decide
  have h3 : (Value.type "zip" == Value.type "tuple") = false := by decide
  simp only [h1, h2, h3, Bool.or_false, Bool.false_eq_true, if_false]
  refine wpAny_bind (wpAny_pyIter_zip N.hz ?_)
  refine wpAny_bind (wpAny_holding ?_)
  unfold Builtin.List.listLengthHint
  refine wpAny_bind (wpAny_specialOf hT zip_nolen ?_)
  show wpAny _ A.in1 (specialOf (Value.ref z) (Str.ofString "__length_hint__") >>= _) _ _ _
  refine wpAny_bind (wpAny_specialOf hT zip_nohint ?_)
  refine wpAny_pure ?_
  show wpAny _ A.in1 (rule "list.extend.makes-room" >>= fun _ => Builtin.List.listTouch (.ref S) >>= fun _ =>
    again (.builtin "list.extend.loop" ⟨[.ref S, .ref z, res], []⟩)) _ _ _
  refine wpAny_bind (wpAny_rule ?_)
  refine wpAny_bind ?_
  show wpAny _ A.in1 (updateSeq S (·.push .none) >>= fun _ => updateSeq S (·.pop)) _ _ _
  refine wpAny_bind (wpAny_updateSeq hS rfl ?_)
  have hS₂ := Heap.get?_update_self (Obj.mapSeq (·.push Value.none)) hS rfl
  refine wpAny_updateSeq (hz := by seq_fits) hS₂ rfl ?_
  have hS₃ := Heap.get?_update_self (Obj.mapSeq (·.pop)) hS₂ rfl
  have oth : ∀ b o, b ≠ S → s.heap.get? b = some o → ((s.heap.update S (Obj.mapSeq (·.push Value.none))).update S (Obj.mapSeq (·.pop))).get? b = some o :=
    fun b o hb e => (Heap.get?_update_other _ _ (Ne.symm hb)).trans ((Heap.get?_update_other _ _ (Ne.symm hb)).trans e)
  obtain ⟨n1, n2, n3, n4, n5⟩ := nS
  obtain ⟨x0, y0, hTO⟩ := N.hTO
  have I2 := I.turnedL (t' := s.toks) (ch := [S]) (fun b o hb e => oth b o (fun e' => hb (List.mem_singleton.mpr e')) e) fun b hb => by rw [List.mem_singleton.mp hb]; exact fS
  refine wpAny_pure (hF _ _ (plainId_quiet F.plain_extend_loop _) (zip_loopA hh N.D ⟨n1, n2, n3, n4, n5⟩ hn _ 0 _ H #[] _ [] rfl (Nat.zero_le _) I2 hqx hqy ⟨oth _ _ n2.symm N.hTI, N.h1.at fun o e => oth _ _ n4.symm e, N.h2.at fun o e => oth _ _ n5.symm e, ⟨_, oth _ _ n3.symm hTO⟩, .inl ⟨oth _ _ n1.symm N.hz, x0, y0, oth _ _ n3.symm hTO⟩⟩
    (fun c hc => ?_) hS₃ .nil AllAt.nil hR))
  rcases List.mem_cons.mp hc with q | q
  · rw [q]; exact fS
  · exact N.fp c q
theorem list_zipA {E : Value → Shared → Prop} {Q : Value → Shared → Prop} (hh : A.handled = none) (N : ZipNew X pins H s.heap z TI TO i1 i2 a b) (hn : min xs.length ys.length ≤ sizeLine) (I : Inv X pins σ H s) (hqx : SqT X.K H a xs) (hqy : SqT X.K H b ys)
    (hQ : ∀ s' H' S acc' c' rs', Inv X pins σ H' s' → Same H H' → FpOk X pins H' S → s'.heap.get? S = some { cls := .type "list", dict := none, data := .seq acc' c', slots := #[] } → Vals rs' acc'.toList → AllAt (PrAt H') rs' (xs.zip ys) → Q (.ref S) s') : wpAny (model X.prog X.w) A (call (.type "list") [.ref z]) Q E s := by
  have lt := N.lt
  obtain ⟨x0, y0, hTO⟩ := N.hTO
  refine callType_codes (Q₁ := fun obj s₁ => obj = .ref s.heap.objs.size ∧ s₁ = { s with heap := s.heap.push { cls := .type "list", data := .seq #[] } }) F.called_list (F.typeCall_list_1 _) F.entry_list_init
    (code_list_new _ ⟨rfl, rfl⟩) fun obj s₁ h₁ => ?_
  obtain ⟨rfl, rfl⟩ := h₁
  have hS : (s.heap.push { cls := .type "list", data := .seq #[] }).get? s.heap.objs.size = some { cls := .type "list", data := .seq #[] } := Heap.get?_push_size _ rfl
  refine ⟨⟨_, hS, rfl⟩, F.args_list_init_2 _ _, ?_⟩
  show wpAny _ A.in1.in1 (do let old ← Builtin.List.listItems (.ref s.heap.objs.size); Builtin.List.listUpdate (.ref s.heap.objs.size) (fun _ => #[]); letGo old.toList.reverse; Builtin.List.listExtendWith (.ref s.heap.objs.size) (.ref z) .none) _ _ _
  refine wpAny_bind ?_
  unfold Builtin.List.listItems
  refine wpAny_bind (wpAny_seqItems hS rfl (wpAny_pure ?_))
  show wpAny _ A.in1.in1 (updateSeq s.heap.objs.size (fun _ => #[]) >>= fun _ => letGo (#[] : Array Value).toList.reverse >>= fun _ => Builtin.List.listExtendWith (.ref s.heap.objs.size) (.ref z) .none) _ _ _
  refine wpAny_bind (wpAny_updateSeq hS rfl ?_)
  have hS₂ := Heap.get?_update_self (Obj.mapSeq (fun _ => (#[] : Array Value))) hS rfl
  have push : ∀ b o, s.heap.get? b = some o → ((s.heap.push { cls := .type "list", data := .seq #[] }).update s.heap.objs.size (Obj.mapSeq (fun _ => (#[] : Array Value)))).get? b = some o :=
    fun b o e => (Heap.get?_update_other _ _ (Nat.ne_of_gt (Heap.lt_size e))).trans (Heap.get?_push_of_some _ e)
  refine wpAny_bind (wpAny_letGo ?_)
  have I1 : Inv X pins σ H { s with heap := (s.heap.push { cls := .type "list", data := .seq #[] }).update s.heap.objs.size (Obj.mapSeq (fun _ => (#[] : Array Value))) } := I.kept (t' := s.toks) push
  refine zip_extendA (A := A.in1) (s := { s with heap := (s.heap.push { cls := .type "list", data := .seq #[] }).update s.heap.objs.size (Obj.mapSeq (fun _ => (#[] : Array Value))) }) hh ⟨N.D, push _ _ N.hz, push _ _ N.hTI, ⟨x0, y0, push _ _ hTO⟩, N.h1.at fun o e => push _ _ e, N.h2.at fun o e => push _ _ e, N.fp⟩ hn I1 hqx hqy
    hS₂ (I.fpOk (Nat.le_refl _) (I.hok.fresh (Nat.le_refl _))) ⟨Nat.ne_of_gt (lt _ (by simp)), Nat.ne_of_gt (lt _ (by simp)), Nat.ne_of_gt (lt _ (by simp)), Nat.ne_of_gt (lt _ (by simp)), Nat.ne_of_gt (lt _ (by simp))⟩ (fun c' s' q k => ⟨q, k⟩) fun s' H' acc' c' rs' I' sm fS' hS' rv' hA' => ?_
  exact ⟨rfl, hQ s' H' _ acc' c' rs' I' sm fS' hS' rv' hA'⟩
end
/-- a thing of our own that was laid while a loop ran is told in the heap's reading -/
theorem Inv.adopt {X : Cx} {pins : List (Addr × Obj)} {σ : L2.St} {H : Hp} {s : Shared} {S : Addr} {o : HO} (I : Inv X pins σ H s) (f : FpOk X pins H S) (new : ObjOk X.prog X.w (upd H S o) s.heap S o) : Inv X pins σ (upd H S o) s := by
  obtain ⟨f0, f1, f2, f3, f4, f5⟩ := f
  have key : Inv X pins σ (upd H S o) { s with heap := s.heap, gens := s.gens, drawn := s.drawn, toks := s.toks } := by
    refine I.step (ch := [S]) (fun b hb => ?_) (fun b u _ _ _ e _ => e) (fun b u _ _ _ e _ => ⟨u.slots, e⟩) (fun b u hb _ n => ?_) (fun b u _ e => ⟨u, e⟩) (fun b xs e => ?_) (fun b u v e => ?_) (fun b ps e => ⟨#[], ?_⟩) (fun m hm => hm) (fun b u e => ?_) I.bare
    · rw [List.mem_singleton.mp hb]
      exact ⟨f3, f1, f4, f5⟩
    · rw [upd_ne (fun z => hb (List.mem_singleton.mpr z))]; exact n
    · rw [upd_ne (ne_of_none e f0)]; exact e
    · rw [upd_ne (ne_of_none e f0)]; exact e
    · rw [upd_ne (ne_of_none e f0), e]; simp
    · by_cases hb : b = S
      · subst hb
        rw [upd_same] at e
        cases e
        exact new
      · rw [upd_ne hb] at e
        exact (I.hok b u e).stay (fun c v _ q => q) (fun c q => by rw [upd_ne (ne_of_none q f0)]; exact q) fun c xs q => by rw [upd_ne (ne_of_none q f0)]; exact q
  exact key
section
variable {X : Cx} {e e2 : Expr} {ta : TA} {p p2 pos pos2 : Pos}
def tListZip (K : PySem.W.Frag) (ta : TA) : TE := fun σ H Q => ta σ H fun vs H1 => ∃ a b xs ys, vs = [.ref a, .ref b] ∧ SqT K H1 a xs ∧ SqT K H1 b ys ∧ min xs.length ys.length ≤ sizeLine ∧
  ∀ H' t rs, Same H1 H' → H1 t = none → H' t = some (.lst rs) → AllAt (PrAt H') rs (xs.zip ys) → Q (.ref t) H'
theorem pe_listZip (hc : X.calm = true) (hg : Gl X "list") (hm : X.mg "list" = none) (hg2 : Gl X "zip") (hm2 : X.mg "zip" = none) (ha : PA X [e, e2] ta)
    (na : starEach [.Call (.Name "zip" p2) [e, e2] [] pos2] X.env = (false, eval (.Call (.Name "zip" p2) [e, e2] [] pos2) X.env) :: starEach [] X.env := by rfl)
    (hs : starEach [e, e2] X.env = (false, eval e X.env) :: starEach [e2] X.env := by rfl) (hpl : (backTo pos2 (starEach [e2] X.env)).any (·.1) = false := by rfl) :
    PE X (.Call (.Name "list" p) [.Call (.Name "zip" p2) [e, e2] [] pos2] [] pos) (tListZip X.K ta) := by
  refine ⟨fun pins s σ H Q I h => ?_⟩
  refine Call_ (ld_blt I hg hm boot_list (PyProof.Rows.callWith_type1 (args_cons (eval_zip hg2 hm2 ha I h (fun vs H1 q => ?_) hs hpl) na) na))
  obtain ⟨a, b, xs, ys, ex, hx, hy, hn, q⟩ := q
  refine ⟨a, b, xs, ys, ex, hx, hy, fun s' z TI TO i1 i2 I' N => args_nil ?_⟩
  refine list_zipA (I'.ok.hd hc) N hn I' hx hy fun s2 H2 S acc c rs I2 sm fS hS rv hA => ?_
  have hal : acc.size = min xs.length ys.length := by rw [← Array.length_toList, ← rv.length, hA.1, List.length_zip]
  have hfr : H2 S = none := fS.1
  refine ⟨.ref S, upd H2 S (.lst rs), Inv.adopt I2 fS ⟨by rw [rv.length, Array.length_toList, hal]; exact hn, acc.toList, c, rv, by rw [Array.toArray_toList]; exact hS⟩, rfl, q _ S rs (same_more sm hfr) (same_free sm hfr) upd_same (hA.mono fun c p h => (new_past hfr h : PrAt _ c p))⟩
end
end SL

set_option Elab.async false
set_option linter.all false
set_option maxRecDepth 100000
set_option maxHeartbeats 1000000
/-! Own layer 81: settled lines by the few futures. -/
namespace SL
open PySem PySem.Spec PyProof.Rows L2
theorem prs_app_in {lo : Nat} {a b : List Nat} {q : Nat × Nat} (h : ∀ y ∈ b, q.2 < y) : q ∈ prs lo (a ++ b) ↔ q ∈ prs lo a := by
  rw [prs_app, List.mem_append]
  exact ⟨fun z => z.elim id fun z => absurd (h _ (prs_snd z)) (Nat.lt_irrefl _), .inl⟩
section
variable {ns : List Int} {m : Int}
theorem few_open {u : Int} (hF : Fit m ns) (h1 : 1 ≤ u) (h2 : u ≤ m) {q : Nat × Nat} (hq : q.2 ≤ ns.length) : q ∈ prs 0 (blay (ns ++ [u]) m) ↔ q ∈ prs 0 (pathOf ns m (startO ns m u)) := by
  rw [fut_open hF h1 h2]
  exact prs_app_in fun y hy => by
    simp at hy
    omega
theorem few_closed {u : Int} (hF : Fit m ns) (h1 : 1 ≤ u) (h2 : u ≤ m) {q : Nat × Nat} (hq : q.2 ≤ ns.length) : q ∈ prs 0 (blay (ns ++ [u, m]) m) ↔ q ∈ prs 0 (pathOf ns m (startC ns m u)) := by
  rw [fut_closed hF h1 h2]
  exact prs_app_in fun y hy => by
    simp at hy
    omega
theorem few_lines (hF : Fit m ns) (hm : 1 ≤ m) {q : Nat × Nat} (hq : q ∈ prs 0 (blay ns m)) : ((fewF m m.toNat).all fun f => decide (q ∈ prs 0 (blay (ns ++ f) m))) = true ↔ ∀ s, StartAt ns m s → q ∈ prs 0 (pathOf ns m s) := by
  have hqn : q.2 ≤ ns.length := (blay_char hF).1.1.mem_le _ (prs_snd hq)
  rw [List.all_eq_true]
  constructor
  · rintro h s ⟨u, h1, h2, hs | hs⟩
    · rw [hs]
      exact (few_closed hF h1 h2 hqn).mp (of_decide_eq_true (h [u, m] (fewF_mem.mpr (.inr ⟨u, h1, h2, .inr rfl⟩))))
    · rw [hs]
      exact (few_open hF h1 h2 hqn).mp (of_decide_eq_true (h [u] (fewF_mem.mpr (.inr ⟨u, h1, h2, .inl rfl⟩))))
  · intro h f hf
    refine decide_eq_true ?_
    rcases fewF_mem.mp hf with rfl | ⟨u, h1, h2, rfl | rfl⟩
    · rw [List.append_nil]; exact hq
    · exact (few_open hF h1 h2 hqn).mpr (h _ ⟨u, h1, h2, .inr rfl⟩)
    · exact (few_closed hF h1 h2 hqn).mpr (h _ ⟨u, h1, h2, .inl rfl⟩)
end
theorem any_prL (ps : List (Nat × Nat)) (q : Nat × Nat) : ((ps.map prD).any fun z => PyData.eqv z (prD q)) = decide (q ∈ ps) := any_pr ps q
theorem shaped_prL (ps : List (Nat × Nat)) : SeqAt.shaped (.list (ps.map prD)) = true := shaped_prs2 ps
/-- the lengths of lines add up -/
theorem prs_sum : ∀ (lo : Nat) (es : List Nat), ((prs lo es).map fun q => (q.2 : Int) - (q.1 : Int)).sum = ((es.getLast?.getD lo : Nat) : Int) - (lo : Int)
  | lo, [] => by simp [prs]
  | lo, e :: es => by
    show ((e : Int) - (lo : Int)) + ((prs e es).map fun q => (q.2 : Int) - (q.1 : Int)).sum = _
    rw [prs_sum e es]
    have : (e :: es).getLast?.getD lo = es.getLast?.getD e := by
      cases es with
      | nil => rfl
      | cons a b => simp [List.getLast?_cons]
    rw [this]
    omega
def spLinesZ (K : PySem.W.Frag) : Sp := fun vs H Q _ => ∃ (t : Addr) (es : List Nat), vs = [.ref t] ∧ SqT K H t (es.map natV) ∧ es.length ≤ 1000 ∧
  ∀ H' r rs, Same H H' → H r = none → H' r = some (.lst rs) → AllAt (PrAt H') rs ((prs 0 es).map pairV) → Q (.ref r) H'
end SL

set_option Elab.async false
set_option linter.all false
set_option maxRecDepth 100000
set_option maxHeartbeats 1000000
/-! Own layer 82: what stands behind the settled lines is a text of its own. -/
namespace SL
open PySem PySem.Spec PyProof.Rows L2
theorem asc_split {n : Nat} : ∀ {l : List Nat}, l.Pairwise (· < ·) → l = l.filter (fun x => decide (x ≤ n)) ++ l.filter (fun x => decide (n < x))
  | [], _ => rfl
  | a :: l, h => by
    obtain ⟨h1, h2⟩ := List.pairwise_cons.mp h
    by_cases ha : a ≤ n
    · rw [List.filter_cons_of_pos (by simpa using ha), List.filter_cons_of_neg (by simp; omega), List.cons_append, ← asc_split h2]
    · rw [List.filter_cons_of_neg (by simpa using ha), List.filter_cons_of_pos (by simp; omega)]
      rw [List.filter_eq_nil_iff.mpr (fun x hx => by have := h1 x hx; simp; omega), List.filter_eq_self.mpr (fun x hx => by have := h1 x hx; simp; omega)]
      rfl
theorem chain_end {ns : List Int} {m : Int} : ∀ {lo a b : Nat} {es : List Nat}, Chain ns m lo es a → Chain ns m lo es b → a = b
  | lo, a, b, [], h, g => by
    have h : lo = a := h
    have g : lo = b := g
    omega
  | lo, a, b, e :: es, h, g => chain_end (es := es) h.2.2 g.2.2
section
variable {ns : List Int} {m : Int} {e : Nat}
theorem common_more {gs : List Int} (hF : Fit m (ns ++ gs)) (h : SetEnd ns m e) (he : e ≤ ns.length) (hm : 1 ≤ m) : Common (ns ++ gs) m (StartAt (ns ++ gs) m) e := by
  have key : ∀ (fs : List Int) (s' : Nat) (T : List Nat), fs ≠ [] → Fit m (ns ++ (gs ++ fs)) → blay (ns ++ (gs ++ fs)) m = pathOf (ns ++ gs) m s' ++ T → (∀ y ∈ T, ns.length < y) → Anc (ns ++ gs) m s' e := by
    intro fs s' T hfs hF2 hb hT
    obtain ⟨s, hs, hf⟩ := fut_any (ns := ns) hF2 (by simp [hfs])
    rcases h.com s hs with z | z
    · exact .inl z
    · rw [← hf] at z
      obtain ⟨z1, z2⟩ := List.mem_filter.mp z
      rw [hb] at z1
      rcases List.mem_append.mp z1 with z1 | z1
      · exact .inr z1
      · have := hT _ z1
        omega
  have fit : ∀ fs : List Int, (∀ x ∈ fs, 1 ≤ x ∧ x ≤ m) → Fit m (ns ++ (gs ++ fs)) := fun fs hf => fit_of fun x hx => by
    rw [← List.append_assoc] at hx
    rcases List.mem_append.mp hx with hx | hx
    · exact fit_all hF x hx
    · exact hf x hx
  rintro s' ⟨v, v1, v2, hs | hs⟩
  · refine key [v, m] s' _ (by simp) (fit _ fun x hx => ?_) (by rw [← List.append_assoc, fut_closed hF v1 v2, hs]) ?_
    · simp at hx
      rcases hx with hx | hx <;> omega
    · intro y hy
      simp at hy
      omega
  · refine key [v] s' _ (by simp) (fit _ fun x hx => ?_) (by rw [← List.append_assoc, fut_open hF v1 v2, hs]) ?_
    · simp at hx
      omega
    · intro y hy
      simp at hy
      omega
/-- a longer text's settled lines begin with the settled ones -/
theorem settled_front {gs : List Int} (hF : Fit m (ns ++ gs)) (h : SetEnd ns m e) (he : e ≤ ns.length) (hm : 1 ≤ m) {e' : Nat} (h' : SetEnd (ns ++ gs) m e') (he' : e' ≤ (ns ++ gs).length) : ∃ t, pathOf (ns ++ gs) m e' = pathOf ns m e ++ t := by
  have c := common_more hF h he hm
  have hle := h'.top e c
  have a := Anc.chain hF (Nat.le_refl _) (c _ (start_end hF hm)) (h'.com _ (start_end hF hm)) hle
  obtain ⟨t, ht, _⟩ := anc_prefix hF he' a
  exact ⟨t, by rw [ht, pathOf_pre hF he]⟩
/-- the best layout with a future goes through the settled end -/
theorem rest_front {fs : List Int} (hF : Fit m (ns ++ fs)) (h : SetEnd ns m e) (he : e ≤ ns.length) (hm : 1 ≤ m) : ∃ t, blay (ns ++ fs) m = pathOf ns m e ++ t ∧ ∀ y ∈ t, e < y := by
  by_cases hfs : fs = []
  · subst hfs
    rw [List.append_nil]
    exact blay_front (fit_left hF) hm h he
  · obtain ⟨s, hs, hf⟩ := fut_any hF hfs
    have hFn := fit_left hF
    obtain ⟨t, ht, hy⟩ := anc_prefix hFn (hs.le hFn) (h.com s hs)
    refine ⟨t ++ (blay (ns ++ fs) m).filter (fun x => decide (ns.length < x)), ?_, fun y z => ?_⟩
    · rw [← List.append_assoc, ← ht, ← hf]
      exact asc_split (blay_char hF).1.1.asc.1
    · rcases List.mem_append.mp z with z | z
      · exact hy y z
      · have := of_decide_eq_true (List.mem_filter.mp z).2
        omega
theorem drop_app {fs : List Int} (he : e ≤ ns.length) : (ns ++ fs).drop e = ns.drop e ++ fs := List.drop_append_of_le_length he
theorem fit_rest {fs : List Int} (hF : Fit m (ns ++ fs)) (he : e ≤ ns.length) : Fit m (ns.drop e ++ fs) := by
  rw [← drop_app he]
  exact fit_drop hF e
/-- .. and what is behind it is the best layout of the rest with the future -/
theorem rest_blay {fs : List Int} (hF : Fit m (ns ++ fs)) (h : SetEnd ns m e) (he : e ≤ ns.length) (hm : 1 ≤ m) : blay (ns ++ fs) m = pathOf ns m e ++ (blay (ns.drop e ++ fs) m).map (· + e) := by
  obtain ⟨t, ht, hy⟩ := rest_front hF h he hm
  have hFR := fit_rest hF he
  have hen : e ≤ (ns ++ fs).length := by rw [List.length_append]; omega
  have hp : Chain (ns ++ fs) m 0 (pathOf ns m e) e := by
    rw [← pathOf_pre hF he]
    exact ((pathOf_pth hF hen).plan (n := 0) hF hen).1
  have hB := (blay_char hF).1
  rw [ht] at hB
  by_cases ht0 : t = []
  · subst ht0
    rw [List.append_nil] at hB
    have hl := chain_end hB.1 hp
    have : ns.drop e ++ fs = [] := by
      rw [← drop_app he, ← hl]
      exact List.drop_length
    rw [ht, this]
    rfl
  · have hdu := down_up hy
    rw [← hdu] at hB
    have hS := best_suffix hB hp (fun z => ht0 (List.map_eq_nil_iff.mp z)) hen
    rw [drop_app he] at hS
    have := BestC.uni hS (blay_char hFR).1
    rw [ht, ← this, hdu]
theorem fit_nil' (hF : Fit m ns) : Fit m (ns ++ []) := by rw [List.append_nil]; exact hF
theorem rest_own (hF : Fit m ns) (h : SetEnd ns m e) (he : e ≤ ns.length) (hm : 1 ≤ m) : blay ns m = pathOf ns m e ++ (blay (ns.drop e) m).map (· + e) := by
  have := rest_blay (fit_nil' hF) h he hm
  rwa [List.append_nil, List.append_nil] at this
theorem path_mem (hF : Fit m ns) (he : e ≤ ns.length) : ∀ x ∈ pathOf ns m e, x ≤ e := fun x hx => (pathOf_le hF he hx).2
theorem lastN_app (a b : List Nat) : lastN (a ++ b.map (· + lastN a)) = lastN a + lastN b := by
  unfold lastN
  rw [List.getLast?_append, List.getLast?_map]
  cases b.getLast? with
  | none => simp
  | some x => simp; omega
/-- the starts of the rest -/
theorem rest_start (hF : Fit m ns) (h : SetEnd ns m e) (he : e ≤ ns.length) (hm : 1 ≤ m) {u : Int} (h1 : 1 ≤ u) (h2 : u ≤ m) :
    (startC ns m u = startC (ns.drop e) m u + e ∧ pathOf ns m (startC ns m u) = pathOf ns m e ++ (pathOf (ns.drop e) m (startC (ns.drop e) m u)).map (· + e)) ∧
    (startO ns m u = startO (ns.drop e) m u + e ∧ pathOf ns m (startO ns m u) = pathOf ns m e ++ (pathOf (ns.drop e) m (startO (ns.drop e) m u)).map (· + e)) := by
  have hR := fit_drop hF e
  have hlR : (ns.drop e).length = ns.length - e := List.length_drop ..
  have key : ∀ (fs : List Int) (s s' : Nat) (T T' : List Nat), Fit m (ns ++ fs) → s ≤ ns.length → s' ≤ (ns.drop e).length → blay (ns ++ fs) m = pathOf ns m s ++ T → blay (ns.drop e ++ fs) m = pathOf (ns.drop e) m s' ++ T' → (∀ y ∈ T, ns.length < y) → (∀ y ∈ T', (ns.drop e).length < y) →
      s = s' + e ∧ pathOf ns m s = pathOf ns m e ++ (pathOf (ns.drop e) m s').map (· + e) := by
    intro fs s s' T T' hF2 hs hs' hb hb' hT hT'
    have hr := rest_blay hF2 h he hm
    rw [hb, hb', List.map_append, ← List.append_assoc] at hr
    have hf := congrArg (fun l => l.filter fun x => decide (x ≤ ns.length)) hr
    simp only [List.filter_append] at hf
    rw [List.filter_eq_self.mpr (fun x hx => decide_eq_true (Nat.le_trans (path_mem hF hs x hx) hs)), List.filter_eq_nil_iff.mpr (fun x hx => by have := hT x hx; simp; omega), List.append_nil,
      List.filter_eq_self.mpr (fun x hx => decide_eq_true (Nat.le_trans (path_mem hF he x hx) he)),
      List.filter_eq_self.mpr (fun x hx => by
        obtain ⟨y, hy, rfl⟩ := List.mem_map.mp hx
        have := path_mem hR hs' y hy
        simp
        omega),
      List.filter_eq_nil_iff.mpr (fun x hx => by
        obtain ⟨y, hy, rfl⟩ := List.mem_map.mp hx
        have := hT' y hy
        simp
        omega), List.append_nil] at hf
    refine ⟨?_, hf⟩
    have hl := congrArg lastN hf
    rw [lastN_path hF hs] at hl
    have hle := lastN_path hF he
    have := lastN_app (pathOf ns m e) (pathOf (ns.drop e) m s')
    rw [hle] at this
    rw [this, lastN_path hR hs'] at hl
    omega
  have fit : ∀ fs : List Int, (∀ x ∈ fs, 1 ≤ x ∧ x ≤ m) → Fit m (ns ++ fs) := fun fs hf => fit_of fun x hx => by
    rcases List.mem_append.mp hx with hx | hx
    · exact fit_all hF x hx
    · exact hf x hx
  constructor
  · refine key [u, m] _ _ _ _ (fit _ fun x hx => ?_) (startC_le hF h1 h2) (startC_le hR h1 h2) (fut_closed hF h1 h2) (fut_closed hR h1 h2) (fun y hy => ?_) (fun y hy => ?_)
    · simp at hx
      rcases hx with hx | hx <;> omega
    · simp at hy
      omega
    · simp at hy
      simp
      omega
  · refine key [u] _ _ _ _ (fit _ fun x hx => ?_) (startO_le hF h1 h2) (startO_le hR h1 h2) (fut_open hF h1 h2) (fut_open hR h1 h2) (fun y hy => ?_) (fun y hy => ?_)
    · simp at hx
      omega
    · simp at hy
      omega
    · simp at hy
      simp
      omega
theorem rest_at (hF : Fit m ns) (h : SetEnd ns m e) (he : e ≤ ns.length) (hm : 1 ≤ m) {s : Nat} (hs : StartAt ns m s) : ∃ s', StartAt (ns.drop e) m s' ∧ s = s' + e ∧ pathOf ns m s = pathOf ns m e ++ (pathOf (ns.drop e) m s').map (· + e) := by
  obtain ⟨u, h1, h2, h3⟩ := hs
  obtain ⟨⟨a1, a2⟩, b1, b2⟩ := rest_start hF h he hm h1 h2
  rcases h3 with h3 | h3
  · exact ⟨_, ⟨u, h1, h2, .inl rfl⟩, by rw [h3, a1], by rw [h3, a2]⟩
  · exact ⟨_, ⟨u, h1, h2, .inr rfl⟩, by rw [h3, b1], by rw [h3, b2]⟩
theorem rest_at' (hF : Fit m ns) (h : SetEnd ns m e) (he : e ≤ ns.length) (hm : 1 ≤ m) {s' : Nat} (hs : StartAt (ns.drop e) m s') : StartAt ns m (s' + e) ∧ pathOf ns m (s' + e) = pathOf ns m e ++ (pathOf (ns.drop e) m s').map (· + e) := by
  obtain ⟨u, h1, h2, h3⟩ := hs
  obtain ⟨⟨a1, a2⟩, b1, b2⟩ := rest_start hF h he hm h1 h2
  rcases h3 with h3 | h3
  · rw [h3, ← a1]
    exact ⟨⟨u, h1, h2, .inl rfl⟩, by rw [a1] at a2 ⊢; exact a2⟩
  · rw [h3, ← b1]
    exact ⟨⟨u, h1, h2, .inr rfl⟩, by rw [b1] at b2 ⊢; exact b2⟩
theorem rest_in (hF : Fit m ns) (he : e ≤ ns.length) {L : List Nat} {j : Nat} (hj : 0 < j) : j + e ∈ pathOf ns m e ++ L.map (· + e) ↔ j ∈ L := by
  rw [List.mem_append]
  constructor
  · rintro (z | z)
    · have := path_mem hF he _ z
      omega
    · obtain ⟨y, hy, hz⟩ := List.mem_map.mp z
      have : y = j := by omega
      rw [← this]; exact hy
  · exact fun z => .inr (List.mem_map.mpr ⟨j, z, rfl⟩)
theorem rest_all (hF : Fit m ns) (h : SetEnd ns m e) (he : e ≤ ns.length) (hm : 1 ≤ m) {j : Nat} (hj : 0 < j) : (InAll ns m (j + e) ↔ InAll (ns.drop e) m j) ∧ (InNone ns m (j + e) ↔ InNone (ns.drop e) m j) := by
  unfold InAll InNone
  rw [rest_own hF h he hm, rest_in hF he hj]
  constructor
  · constructor
    · rintro ⟨a, b⟩
      refine ⟨a, fun s' hs' => ?_⟩
      obtain ⟨c, d⟩ := rest_at' hF h he hm hs'
      have := b _ c
      rw [d, rest_in hF he hj] at this
      exact this
    · rintro ⟨a, b⟩
      refine ⟨a, fun s hs => ?_⟩
      obtain ⟨s', c, _, d⟩ := rest_at hF h he hm hs
      rw [d, rest_in hF he hj]
      exact b _ c
  · constructor
    · rintro ⟨a, b⟩
      refine ⟨a, fun s' hs' => ?_⟩
      obtain ⟨c, d⟩ := rest_at' hF h he hm hs'
      have := b _ c
      rw [d, rest_in hF he hj] at this
      exact this
    · rintro ⟨a, b⟩
      refine ⟨a, fun s hs => ?_⟩
      obtain ⟨s', c, _, d⟩ := rest_at hF h he hm hs
      rw [d, rest_in hF he hj]
      exact b _ c
theorem rest_st (hF : Fit m ns) (h : SetEnd ns m e) (he : e ≤ ns.length) (hm : 1 ≤ m) {j : Nat} (hj : 0 < j) : stS ns m (j + e) = stS (ns.drop e) m j := by
  obtain ⟨a, b⟩ := rest_all hF h he hm hj
  unfold stS
  by_cases h1 : InNone ns m (j + e)
  · rw [if_pos h1, if_pos (b.mp h1)]
  · rw [if_neg h1, if_neg (fun z => h1 (b.mpr z))]
    by_cases h2 : InAll ns m (j + e)
    · rw [if_pos h2, if_pos (a.mp h2)]
    · rw [if_neg h2, if_neg (fun z => h2 (a.mpr z))]
theorem rest_stL (hF : Fit m ns) (h : SetEnd ns m e) (he : e ≤ ns.length) (hm : 1 ≤ m) : (stL ns m).drop e = stL (ns.drop e) m := by
  refine List.ext_getElem? fun i => ?_
  rw [List.getElem?_drop]
  by_cases hi : e + i < ns.length
  · rw [stL_at hi, stL_at (by rw [List.length_drop]; omega)]
    rw [show e + i + 1 = (i + 1) + e by omega, rest_st hF h he hm (Nat.succ_pos _)]
  · rw [List.getElem?_eq_none (by rw [stL_len]; omega), List.getElem?_eq_none (by rw [stL_len, List.length_drop]; omega)]
theorem rest_starts (hF : Fit m ns) (h : SetEnd ns m e) (he : e ≤ ns.length) (hm : 1 ≤ m) {L : List Nat} (hL : StartsL (ns.drop e) m L) : StartsL ns m (L.map (· + e)) where
  pw := List.pairwise_map.mpr (hL.pw.imp fun {a b} h => by omega)
  mem := fun b => by
    rw [List.mem_map]
    constructor
    · rintro ⟨s', hs', rfl⟩
      exact (rest_at' hF h he hm ((hL.mem s').mp hs')).1
    · intro hb
      obtain ⟨s', c, d, _⟩ := rest_at hF h he hm hb
      exact ⟨s', (hL.mem s').mpr c, d.symm⟩
theorem rest_set (hF : Fit m ns) (h : SetEnd ns m e) (he : e ≤ ns.length) (hm : 1 ≤ m) : SetEnd (ns.drop e) m 0 := by
  refine ⟨fun _ _ => .inl rfl, fun x hx => ?_⟩
  have := h.top (x + e) fun s hs => by
    obtain ⟨s', c, d, hp⟩ := rest_at hF h he hm hs
    rcases hx s' c with z | z
    · rw [z, Nat.zero_add]
      exact h.com s hs
    · refine .inr ?_
      rw [hp]
      exact List.mem_append_right _ (List.mem_map.mpr ⟨x, z, rfl⟩)
  omega
theorem path_len_in (hF : Fit m ns) (he : e ≤ ns.length) : (pathOf ns m e).length ≤ e := pathOf_len hF he
end
theorem prs_front (a t : List Nat) : (prs 0 (a ++ t)).take (prs 0 a).length = prs 0 a := by rw [prs_app, List.take_left]
theorem eqv_prnil (ps : List (Nat × Nat)) : PyData.eqv (prsD ps) (.tuple []) = decide (ps = []) := by
  unfold prsD
  cases ps <;> simp [PyData.eqv, PyData.eqvAll]
/-- both ways of a choice give the same value -/
theorem iteV {c : Bool} {ta tb : VK → Prop} {x : V} {H : Hp} {R : VK} (hA : c = true → ∀ Q : VK, Q x H → ta Q) (hB : ¬ c = true → ∀ Q : VK, Q x H → tb Q) (h : R x H) : if c = true then ta R else tb R := by
  by_cases hc : c = true
  · rw [if_pos hc]; exact hA hc R h
  · rw [if_neg hc]; exact hB hc R h
def spShift (K : PySem.W.Frag) : Sp := fun vs H Q _ => ∃ (l : Addr) (es : List Nat) (d : Nat), vs = [.ref l, natV d] ∧ SqT K H l (es.map natV) ∧ es.length ≤ 1000 ∧ ∀ H' r, Same H H' → SqT K H' r ((es.map (· + d)).map natV) → Q (.ref r) H'
def spRest77 (K : PySem.W.Frag) : Sp := fun vs H Q _ => ∃ (m : Int) (t r : Addr) (ns fs : List Int) (e : Nat), vs = [.int m, .ref t, natV e, .ref r] ∧ SqT K H t (ns.map V.int) ∧ SqT K H r (fs.map V.int) ∧ Fit m (ns ++ fs) ∧ 1 ≤ m ∧ m ≤ 1000000000 ∧ (ns ++ fs).length ≤ 500 ∧ SetEnd ns m e ∧ e ≤ ns.length ∧ ∀ H', Same H H' → Q (.bl true) H'
def spRight77 : Sp := fun vs H Q _ => ∃ (p : Addr) (m : Int) (n : Nat), vs = [.ref p, .int m] ∧ PotAt H p n ∧ n < 500000 ∧ 1 ≤ m ∧ m ≤ 1000000000 ∧ ∀ H', Kp p H H' → PotAt H' p (n + 4000) → Q (.bl true) H'
end SL

set_option Elab.async false
set_option linter.all false
set_option maxRecDepth 100000
set_option maxHeartbeats 1000000
/-! Own layer 83: the draws of the third family. -/
namespace SL
open PySem PySem.Spec PyProof.Rows L2
theorem prime_at4 (c : Int) : ∃ pr : Int, atI [V.int 2305843009213693951, V.int 999999999989, V.int 1000000000039, V.int 67280421310721] (c % 4) = some (.int pr) ∧ 999999999989 ≤ pr ∧ pr ≤ 2305843009213693951 := by
  have h0 := Int.emod_nonneg c (show (4 : Int) ≠ 0 by decide)
  have h1 := Int.emod_lt_of_pos c (show (0 : Int) < 4 by decide)
  generalize c % 4 = r at h0 h1
  have : r = 0 ∨ r = 1 ∨ r = 2 ∨ r = 3 := by omega
  rcases this with rfl | rfl | rfl | rfl
  · exact ⟨2305843009213693951, rfl, by decide, by decide⟩
  · exact ⟨999999999989, rfl, by decide, by decide⟩
  · exact ⟨1000000000039, rfl, by decide, by decide⟩
  · exact ⟨67280421310721, rfl, by decide, by decide⟩
theorem prs_map2 : ∀ (lo : Nat) (es : List Nat), (prs lo es).map (·.2) = es
  | _, [] => rfl
  | lo, e :: es => congrArg (e :: ·) (prs_map2 e es)
def spHeld (K : PySem.W.Frag) : Sp := fun vs H Q _ => ∃ (m : Int) (t : Addr) (ns : List Int), vs = [.int m, .ref t] ∧ SqT K H t (ns.map V.int) ∧ Fit m ns ∧ 1 ≤ m ∧ m ≤ 1000000000 ∧ ns.length ≤ 2000 ∧
  ∀ H' e, Same H H' → SetEnd ns m e → e ≤ ns.length → Q (.int ((ns.length : Int) - (e : Int))) H'
def spFut89 (K : PySem.W.Frag) : Sp := fun vs H Q _ => ∃ (m : Int) (t r : Addr) (ns fs : List Int) (e : Nat), vs = [.int m, .ref t, natV e, .ref r] ∧ SqT K H t (ns.map V.int) ∧ SqT K H r (fs.map V.int) ∧ Fit m (ns ++ fs) ∧ 1 ≤ m ∧ m ≤ 1000000000 ∧ (ns ++ fs).length ≤ 500 ∧ SetEnd ns m e ∧ e ≤ ns.length ∧ ∀ H', Same H H' → Q (.bl true) H'
end SL

set_option Elab.async false
set_option linter.all false
set_option maxRecDepth 100000
set_option maxHeartbeats 1000000
/-! Own layer 84: the own table of the third family: the best so far, begun with the first. -/
namespace SL
open PySem PySem.Spec PyProof.Rows L2
/-- the least so far and where; ahead of all the first one -/
def bst (x0 : Int × Nat) (rs : List (Int × Nat)) : Int × Nat := if rs = [] then x0 else (least rs, hd rs)
theorem yy_pair {rs : List (Int × Nat)} {x : Int × Nat} : (rs = [] ∨ x.1 < least rs → least (rs ++ [x]) = x.1 ∧ hd (rs ++ [x]) = x.2) ∧ (rs ≠ [] → ¬ x.1 < least rs → least (rs ++ [x]) = least rs ∧ hd (rs ++ [x]) = hd rs) := by
  obtain ⟨a, b⟩ := yy_push rs x
  have hne : rs ++ [x] ≠ [] := by simp
  constructor
  · intro h
    obtain ⟨a1, a2⟩ := a h
    rw [yL_ne hne] at a1
    rw [yA_ne hne] at a2
    constructor
    · injection a1
    · injection a2 with a2
      exact Int.ofNat.inj a2
  · intro h1 h2
    obtain ⟨a1, a2⟩ := b h1 h2
    rw [yL_ne hne, yL_ne h1] at a1
    rw [yA_ne hne, yA_ne h1] at a2
    constructor
    · injection a1
    · injection a2 with a2
      exact Int.ofNat.inj a2
theorem bst_push {x0 x : Int × Nat} {rs : List (Int × Nat)} (h0 : rs = [] → x = x0) : bst x0 (rs ++ [x]) = if x.1 < (bst x0 rs).1 then x else bst x0 rs := by
  have hne : rs ++ [x] ≠ [] := by simp
  have e1 : bst x0 (rs ++ [x]) = (least (rs ++ [x]), hd (rs ++ [x])) := if_neg hne
  rw [e1]
  by_cases hrs : rs = []
  · have hx := h0 hrs
    obtain ⟨a, b⟩ := (yy_pair (x := x)).1 (.inl hrs)
    have e2 : bst x0 rs = x0 := if_pos hrs
    rw [a, b, e2, hx, if_neg (Int.lt_irrefl _)]
  · have e2 : bst x0 rs = (least rs, hd rs) := if_neg hrs
    rw [e2]
    by_cases hlt : x.1 < least rs
    · obtain ⟨a, b⟩ := (yy_pair (x := x)).1 (.inr hlt)
      rw [a, b, if_pos hlt]
    · obtain ⟨a, b⟩ := (yy_pair (x := x)).2 hrs hlt
      rw [a, b, if_neg hlt]
end SL

set_option Elab.async false
set_option linter.all false
set_option maxRecDepth 100000
set_option maxHeartbeats 1000000
/-! Own layer 85: the settled end, found by going on while all few futures agree. -/
namespace SL
open PySem PySem.Spec PyProof.Rows L2
section
variable {ns : List Int} {m : Int}
theorem setEnd_ex (hF : Fit m ns) (hm : 1 ≤ m) : ∃ e, SetEnd ns m e ∧ e ≤ ns.length := by
  have key : ∀ k : Nat, ∃ e, e ≤ k ∧ Common ns m (StartAt ns m) e ∧ ∀ x, x ≤ k → Common ns m (StartAt ns m) x → x ≤ e := by
    intro k
    induction k with
    | zero => exact ⟨0, Nat.le_refl _, fun _ _ => .inl rfl, fun x hx _ => hx⟩
    | succ k ih =>
      by_cases hc : Common ns m (StartAt ns m) (k + 1)
      · exact ⟨k + 1, Nat.le_refl _, hc, fun x hx _ => hx⟩
      · obtain ⟨e, h1, h2, h3⟩ := ih
        refine ⟨e, by omega, h2, fun x hx hx2 => ?_⟩
        by_cases hk : x = k + 1
        · rw [hk] at hx2; exact absurd hx2 hc
        · exact h3 x (by omega) hx2
  obtain ⟨e, h1, h2, h3⟩ := key ns.length
  exact ⟨e, ⟨h2, fun x hx => h3 x ((hx _ (start_end hF hm)).le hF (Nat.le_refl _)) hx⟩, h1⟩
/-- the next end behind p, or a great number -/
def IsNx (p : Nat) (L : List Nat) (v : Int) : Prop := (v = 1000000000 ∨ ∃ x ∈ L, p < x ∧ v = (x : Int)) ∧ v ≤ 1000000000 ∧ ∀ x ∈ L, p < x → v ≤ (x : Int)
theorem IsNx.uni {p : Nat} {L : List Nat} {v w : Int} (h : IsNx p L v) (g : IsNx p L w) : v = w := by
  obtain ⟨h1, h2, h3⟩ := h
  obtain ⟨g1, g2, g3⟩ := g
  rcases h1 with h1 | ⟨x, hx, hp, hv⟩ <;> rcases g1 with g1 | ⟨y, hy, gp, gv⟩
  · rw [h1, g1]
  · have := h3 y hy gp
    omega
  · have := g3 x hx hp
    omega
  · have := h3 y hy gp
    have := g3 x hx hp
    omega
theorem IsNx.gt {p : Nat} {L : List Nat} {v : Int} (h : IsNx p L v) (hp : (p : Int) < 1000000000) : (p : Int) < v := by
  rcases h.1 with h1 | ⟨x, _, hx, hv⟩
  · omega
  · omega
theorem IsNx.app {p : Nat} {a b : List Nat} {v : Int} (h : IsNx p a v) (hv : v < 1000000000) (hb : ∀ y ∈ b, v ≤ (y : Int)) : IsNx p (a ++ b) v := by
  obtain ⟨h1, h2, h3⟩ := h
  refine ⟨?_, h2, fun x hx hp => ?_⟩
  · rcases h1 with h1 | ⟨x, hx, hp, hv⟩
    · omega
    · exact .inr ⟨x, List.mem_append_left _ hx, hp, hv⟩
  · rcases List.mem_append.mp hx with hx | hx
    · exact h3 x hx hp
    · exact hb x hx
theorem nx_ex {p : Nat} : ∀ L : List Nat, (∀ x ∈ L, x < 1000000000) → (∃ x ∈ L, p < x) → ∃ a, a ∈ L ∧ p < a ∧ IsNx p L (a : Int)
  | [], _, h => by
    obtain ⟨x, hx, _⟩ := h
    cases hx
  | y :: L, hb, h => by
    have hy := hb y (List.mem_cons_self ..)
    by_cases hL : ∃ x ∈ L, p < x
    · obtain ⟨a, ha, hpa, h1, h2, h3⟩ := nx_ex L (fun x hx => hb x (List.mem_cons_of_mem _ hx)) hL
      by_cases hc : p < y ∧ y ≤ a
      · refine ⟨y, List.mem_cons_self .., hc.1, .inr ⟨y, List.mem_cons_self .., hc.1, rfl⟩, by omega, fun x hx hp => ?_⟩
        rcases List.mem_cons.mp hx with hx | hx
        · omega
        · have := h3 x hx hp
          omega
      · refine ⟨a, List.mem_cons_of_mem _ ha, hpa, .inr ⟨a, List.mem_cons_of_mem _ ha, hpa, rfl⟩, h2, fun x hx hp => ?_⟩
        rcases List.mem_cons.mp hx with hx | hx
        · omega
        · exact h3 x hx hp
    · obtain ⟨x, hx, hp⟩ := h
      rcases List.mem_cons.mp hx with hx | hx
      · subst hx
        refine ⟨x, List.mem_cons_self .., hp, .inr ⟨x, List.mem_cons_self .., hp, rfl⟩, by omega, fun z hz hpz => ?_⟩
        rcases List.mem_cons.mp hz with hz | hz
        · omega
        · exact absurd ⟨z, hz, hpz⟩ hL
      · exact absurd ⟨x, hx, hp⟩ hL
/-- ahead of the settled end all futures go on alike -/
theorem nx_below (hF : Fit m ns) (hm : 1 ≤ m) (hn : ns.length ≤ 1000) {e p : Nat} (h : SetEnd ns m e) (he : e ≤ ns.length) (hpe : p < e) : ∃ a : Nat, a ≤ e ∧ ∀ f, (∀ x ∈ f, 1 ≤ x ∧ x ≤ m) → ∀ v, IsNx p (blay (ns ++ f) m) v → v = (a : Int) := by
  have hin : e ∈ pathOf ns m e := by
    rcases Anc.self hF he with z | z
    · omega
    · exact z
  obtain ⟨a, ha, hpa, hN⟩ := nx_ex (p := p) (pathOf ns m e) (fun x hx => by
    have := path_mem hF he x hx
    omega) ⟨e, hin, hpe⟩
  have hae := path_mem hF he a ha
  refine ⟨a, hae, fun f hf v hv => ?_⟩
  have hF2 : Fit m (ns ++ f) := fit_of fun x hx => by
    rcases List.mem_append.mp hx with hx | hx
    · exact fit_all hF x hx
    · exact hf x hx
  obtain ⟨t, ht, hy⟩ := rest_front hF2 h he hm
  rw [ht] at hv
  exact hv.uni (hN.app (by omega) fun y z => by
    have := hy y z
    omega)
/-- where all futures go on alike within the text is a common end -/
theorem nx_common (hF : Fit m ns) (hm : 1 ≤ m) (hn : ns.length ≤ 1000) {p : Nat} {a : Nat} (ha : a ≤ ns.length) (h : ∀ f ∈ fewF m m.toNat, IsNx p (blay (ns ++ f) m) (a : Int)) : Common ns m (StartAt ns m) a := by
  rintro s ⟨u, h1, h2, hs⟩
  have key : ∀ (f : List Int) (T : List Nat), f ∈ fewF m m.toNat → blay (ns ++ f) m = pathOf ns m s ++ T → (∀ y ∈ T, ns.length < y) → Anc ns m s a := by
    intro f T hf hb hT
    obtain ⟨q1, _, _⟩ := h f hf
    rcases q1 with q1 | ⟨x, hx, _, hx2⟩
    · omega
    · have : a = x := by omega
      subst this
      rw [hb] at hx
      rcases List.mem_append.mp hx with hx | hx
      · exact .inr hx
      · have := hT _ hx
        omega
  rcases hs with hs | hs
  · refine key [u, m] _ (fewF_mem.mpr (.inr ⟨u, h1, h2, .inr rfl⟩)) (by rw [fut_closed hF h1 h2, hs]) fun y hy => ?_
    simp at hy
    omega
  · refine key [u] _ (fewF_mem.mpr (.inr ⟨u, h1, h2, .inl rfl⟩)) (by rw [fut_open hF h1 h2, hs]) fun y hy => ?_
    simp at hy
    omega
end
def spSettled3 (K : PySem.W.Frag) : Sp := fun vs H Q _ => ∃ (m : Int) (t : Addr) (ns : List Int), vs = [.int m, .ref t] ∧ SqT K H t (ns.map V.int) ∧ Fit m ns ∧ 1 ≤ m ∧ m ≤ 200 ∧ ns.length ≤ 300 ∧
  ∀ H' e, Same H H' → SetEnd ns m e → e ≤ ns.length → Q (natV e) H'
end SL

set_option Elab.async false
set_option linter.all false
set_option maxRecDepth 100000
set_option maxHeartbeats 4000000
namespace Lt33
open PySem PySem.Spec PyProof.Rows L2 SL
/-! ### the text -/
def topS (i : Nat) : Stmt := PySem.Challenge.pw_settledlines_k33_held_words.main.body.getD i (.Pass ⟨0, 0, 0, 0⟩)
abbrev s__law_draws : Stmt := topS 19
theorem sc__law_draws : FnScope ["_law_script", "_law_k", "_law_cell", "_law_great"] ["_law_script", "_law_k"] (defScope s__law_draws) := ⟨rfl, rfl, rfl, by decide +kernel, rfl, by decide +kernel, by decide +kernel⟩
abbrev s__law_below : Stmt := topS 20
theorem sc__law_below : FnScope ["_law_draws_here", "_law_many", "_law_step", "_law_prime", "_law_mixed", "_law_digit"] ["_law_draws_here", "_law_many"] (defScope s__law_below) := ⟨rfl, rfl, rfl, by decide +kernel, rfl, by decide +kernel, by decide +kernel⟩
abbrev s__law_pick : Stmt := topS 21
theorem sc__law_pick : FnScope ["_law_draws_here", "_law_items"] ["_law_draws_here", "_law_items"] (defScope s__law_pick) := ⟨rfl, rfl, rfl, by decide +kernel, rfl, by decide +kernel, by decide +kernel⟩
abbrev s__law_text : Stmt := topS 22
theorem sc__law_text : FnScope ["_law_draws_here", "_law_width", "_law_most", "_law_count", "_law_way", "_law_found", "_law_one", "_law_other", "_law_step", "_law_some"] ["_law_draws_here", "_law_width", "_law_most"] (defScope s__law_text) := ⟨rfl, rfl, rfl, by decide +kernel, rfl, by decide +kernel, by decide +kernel⟩
abbrev s__law_futures : Stmt := topS 25
theorem sc__law_futures : FnScope ["_law_width", "_law_found", "_law_word"] ["_law_width"] (defScope s__law_futures) := ⟨rfl, rfl, rfl, by decide +kernel, rfl, by decide +kernel, by decide +kernel⟩
abbrev s__law_solved : Stmt := topS 23
theorem sc__law_solved : FnScope ["_law_width", "_law_text_here", "_law_end", "_law_costs", "_law_befores", "_law_best", "_law_length", "_law_begin", "_law_paid"] ["_law_width", "_law_text_here"] (defScope s__law_solved) := ⟨rfl, rfl, rfl, by decide +kernel, rfl, by decide +kernel, by decide +kernel⟩
abbrev s__law_ends : Stmt := topS 24
theorem sc__law_ends : FnScope ["_law_width", "_law_text_here", "_law_costs", "_law_befores", "_law_length", "_law_begin", "_law_best", "_law_found", "_law_place"] ["_law_width", "_law_text_here"] (defScope s__law_ends) := ⟨rfl, rfl, rfl, by decide +kernel, rfl, by decide +kernel, by decide +kernel⟩
abbrev s__law_settled : Stmt := topS 28
theorem sc__law_settled : FnScope ["_law_width", "_law_text_here", "_law_found", "_law_place", "_law_after", "_law_future", "_law_ends_here", "_law_end"] ["_law_width", "_law_text_here"] (defScope s__law_settled) := ⟨rfl, rfl, rfl, by decide +kernel, rfl, by decide +kernel, by decide +kernel⟩
abbrev s_Table_init : Stmt := inClass (topS 4) 0
theorem sc_Table_init : FnScope ["self", "line_width"] ["self", "line_width"] (defScope s_Table_init) := ⟨rfl, rfl, rfl, by decide +kernel, rfl, by decide +kernel, by decide +kernel⟩
abbrev s_last_lines : Stmt := topS 3
theorem sc_last_lines : FnScope ["width", "words", "found", "begin", "free"] ["width", "words"] (defScope s_last_lines) := ⟨rfl, rfl, rfl, by decide +kernel, rfl, by decide +kernel, by decide +kernel⟩
abbrev s_cheapest : Stmt := topS 2
theorem sc_cheapest : FnScope ["rated", "least", "price", "_", "begin"] ["rated"] (defScope s_cheapest) := ⟨rfl, rfl, rfl, by decide +kernel, rfl, by decide +kernel, by decide +kernel⟩
abbrev s_Table_grow : Stmt := inClass (topS 4) 1
theorem sc_Table_grow : FnScope ["self", "word", "lines", "least", "begins", "begin", "free"] ["self", "word"] (defScope s_Table_grow) := ⟨rfl, rfl, rfl, by decide +kernel, rfl, by decide +kernel, by decide +kernel⟩
abbrev s_table_of : Stmt := topS 5
theorem sc_table_of : FnScope ["width", "text", "table", "word"] ["width", "text"] (defScope s_table_of) := ⟨rfl, rfl, rfl, by decide +kernel, rfl, by decide +kernel, by decide +kernel⟩
abbrev s__crossings : Stmt := topS 7
theorem sc__crossings : FnScope ["table", "found", "begin", "room"] ["table"] (defScope s__crossings) := ⟨rfl, rfl, rfl, by decide +kernel, rfl, by decide +kernel, by decide +kernel⟩
abbrev s__ranges : Stmt := topS 10
theorem sc__ranges : FnScope ["table", "limit", "kept", "crossing", "ranges", "low", "high"] ["table", "limit"] (defScope s__ranges) := ⟨rfl, rfl, rfl, by decide +kernel, rfl, by decide +kernel, by decide +kernel⟩
abbrev s__closing_limit : Stmt := topS 8
theorem sc__closing_limit : FnScope ["crossing", "later", "lead", "_", "room", "cost", "other_room", "other_cost"] ["crossing", "later"] (defScope s__closing_limit) := ⟨rfl, rfl, rfl, by decide +kernel, rfl, by decide +kernel, by decide +kernel⟩
abbrev s_closing_ranges : Stmt := topS 11
theorem sc_closing_ranges : FnScope ["table"] ["table"] (defScope s_closing_ranges) := ⟨rfl, rfl, rfl, by decide +kernel, rfl, by decide +kernel, by decide +kernel⟩
abbrev s__open_limit : Stmt := topS 9
theorem sc__open_limit : FnScope ["crossing", "later", "_", "room", "cost"] ["crossing", "later"] (defScope s__open_limit) := ⟨rfl, rfl, rfl, by decide +kernel, rfl, by decide +kernel, by decide +kernel⟩
abbrev s_open_ranges : Stmt := topS 12
theorem sc_open_ranges : FnScope ["table"] ["table"] (defScope s_open_ranges) := ⟨rfl, rfl, rfl, by decide +kernel, rfl, by decide +kernel, by decide +kernel⟩
abbrev s_all_starts : Stmt := topS 13
theorem sc_all_starts : FnScope ["table", "_", "start"] ["table"] (defScope s_all_starts) := ⟨rfl, rfl, rfl, by decide +kernel, rfl, by decide +kernel, by decide +kernel⟩
abbrev s_settled_end : Stmt := topS 15
theorem sc_settled_end : FnScope ["table", "starts_here", "waiting", "end"] ["table"] (defScope s_settled_end) := ⟨rfl, rfl, rfl, by decide +kernel, rfl, by decide +kernel, by decide +kernel⟩
abbrev s_held_words : Stmt := topS 17
theorem sc_held_words : FnScope ["width", "text"] ["width", "text"] (defScope s_held_words) := ⟨rfl, rfl, rfl, by decide +kernel, rfl, by decide +kernel, by decide +kernel⟩
abbrev s_law : Stmt := topS 29
theorem sc_law : FnScope ["_law_script", "_law_k", "_law_draws_here", "_law_turn", "_law_width", "_law_text_here"] ["_law_script"] (defScope s_law) := ⟨rfl, rfl, rfl, by decide +kernel, rfl, by decide +kernel, by decide +kernel⟩
section
variable {P : Program} {w : World} {K : PySem.W.Frag} {mg : Str → Option Value} {base : Heap}
theorem ok_draws3 (S : Stands K mg "_law_draws" s__law_draws) (B : Blt mg) : Def P w K mg base CX0 1 "_law_draws" s__law_draws ["_law_script", "_law_k"] (spPot K) := by
  obtain ⟨f, fd, F, hm⟩ := S
  refine ⟨f, fd, F, hm, okG0 F sc__law_draws (fun vs H Q E h => ?_) (fun cdv A outer s H vs Q E hg0 hr h => ?_)⟩
  · obtain ⟨l, ns, j, rfl, _⟩ := h
    rfl
  · obtain ⟨l, ns, j, rfl, hS, hl, hj, q⟩ := h
    refine ⟨_, (pss_cons (ps_set (i := 2) sc__law_draws.nd rfl (Or.inl rfl) (pe_ifExp (pt_cmpR op_lt (pv 1) (pe_callB call_len_seq (by rfl) B.len PySem.boot_len (pa_cons (pv 0) pa_nil)) (nomark _)) (pe_ix ix_list (pv 0) (pv 1) (fun _ _ => rfl)) (pe_op op_add (pe_op op_mul pe_int (pv 1)) pe_int)))
      (pss_cons (ps_set (i := 3) sc__law_draws.nd rfl (Or.inl rfl) (pe_op op_mul (pe_op op_mod (pe_callB call_abs (by rfl) B.abs PyProof.Rows.boot_abs (pa_cons (pv 2) pa_nil)) (pe_op op_powW (pe_op op_pow pe_int pe_int) pe_int)) (pe_callTy call_int1 (by rfl) B.int PyProof.Rows.boot_int (pa_cons (pe_cmpR op_ge (pe_callB call_abs (by rfl) B.abs PyProof.Rows.boot_abs (pa_cons (pv 2) pa_nil)) (pe_op op_pow pe_int pe_int) (nomark _)) pa_nil))))
      (pss_one (ps_ret (pe_lst (pa_cons (pv 3) (pa_cons (pe_op op_mod (pe_op op_mul (pe_op op_add (pe_op op_add (pe_op op_mod (pv 2) pe_int) (pe_op op_mul (pe_op op_mul pe_int (pv 1)) (pv 1))) pe_int) pe_int) pe_int) (pa_cons pe_int pa_nil)))))))), ?_⟩
    repeat first | refine ⟨_, rfl, ?_⟩ | refine ⟨_, _, rfl, rfl, ?_⟩ | refine ⟨rfl, ?_⟩ | refine ⟨_, _, rfl, ?_⟩ | refine ⟨_, _, _, rfl, ?_⟩
    refine ⟨l, _, rfl, .inl hS, ?_⟩
    repeat first | refine ⟨_, rfl, ?_⟩ | refine ⟨_, _, rfl, rfl, ?_⟩ | refine ⟨rfl, ?_⟩ | refine ⟨_, _, rfl, ?_⟩ | refine ⟨_, _, _, rfl, ?_⟩
    obtain ⟨c, hc⟩ : ∃ c : Int, c = (if h : j < ns.length then ns[j] else 7 * (j : Int) + 3) := ⟨_, rfl⟩
    refine iteV (x := .int c) (H := H) (fun hlt Q' hq => ?_) (fun hlt Q' hq => ?_) ?_
    · have hlt2 : j < ns.length := by
        have z := of_decide_eq_true hlt
        rw [List.length_map] at z
        omega
      rw [dif_pos hlt2] at hc
      refine ⟨_, rfl, _, rfl, l, _, _, .int c, rfl, rfl, hS, atI_nat (by rw [List.getElem?_map, List.getElem?_eq_getElem hlt2, hc]; rfl), hq⟩
    · have hlt2 : ¬ j < ns.length := fun z => hlt (decide_eq_true (by rw [List.length_map]; omega))
      rw [dif_neg hlt2] at hc
      refine ⟨_, rfl, _, _, rfl, rfl, .inl ⟨by decide, by decide⟩, _, _, rfl, rfl, ?_⟩
      rw [hc] at hq
      exact hq
    clear hc
    refine ⟨_, rfl, c, rfl, _, _, rfl, rfl, ⟨by decide, by decide, by decide⟩, _, _, rfl, rfl, ⟨by decide, by decide +kernel⟩, _, _, rfl, rfl, (by show (0 : Int) < _; decide +kernel), ?_⟩
    refine ⟨_, rfl, c, rfl, _, _, rfl, rfl, ⟨by decide, by decide, by decide⟩, _, _, rfl, rfl, .inr ⟨_, rfl, ?_⟩⟩
    refine ⟨_, _, rfl, rfl, .inr ?_, ?_⟩
    · exact small_bit _
    repeat first | refine ⟨_, rfl, ?_⟩ | refine ⟨_, _, rfl, rfl, ?_⟩ | refine ⟨rfl, ?_⟩ | refine ⟨_, _, rfl, ?_⟩ | refine ⟨_, _, _, rfl, ?_⟩
    refine ⟨(by show (0 : Int) < _; decide), ?_⟩
    repeat first | refine ⟨_, rfl, ?_⟩ | refine ⟨_, _, rfl, rfl, ?_⟩ | refine ⟨rfl, ?_⟩ | refine ⟨_, _, rfl, ?_⟩ | refine ⟨_, _, _, rfl, ?_⟩
    refine ⟨.inl ⟨by decide, by decide⟩, ?_⟩
    repeat first | refine ⟨_, rfl, ?_⟩ | refine ⟨_, _, rfl, rfl, ?_⟩ | refine ⟨rfl, ?_⟩ | refine ⟨_, _, rfl, ?_⟩ | refine ⟨_, _, _, rfl, ?_⟩
    refine ⟨.inr ⟨by omega, by omega⟩, ?_⟩
    repeat first | refine ⟨_, rfl, ?_⟩ | refine ⟨_, _, rfl, rfl, ?_⟩ | refine ⟨rfl, ?_⟩ | refine ⟨_, _, rfl, ?_⟩ | refine ⟨_, _, _, rfl, ?_⟩
    refine ⟨.inr ⟨by decide, by decide⟩, ?_⟩
    repeat first | refine ⟨_, rfl, ?_⟩ | refine ⟨_, _, rfl, rfl, ?_⟩ | refine ⟨rfl, ?_⟩ | refine ⟨_, _, rfl, ?_⟩ | refine ⟨_, _, _, rfl, ?_⟩
    refine ⟨(by show (0 : Int) < _; decide), ?_⟩
    repeat first | refine ⟨_, rfl, ?_⟩ | refine ⟨_, _, rfl, rfl, ?_⟩ | refine ⟨rfl, ?_⟩ | refine ⟨_, _, rfl, ?_⟩ | refine ⟨_, _, _, rfl, ?_⟩
    refine ⟨by show 3 ≤ sizeLine; decide, fun p hp => ?_⟩
    refine q _ p (Same.new hp) hp ⟨_, _, 0, upd_same, ?_, ?_, ?_, ?_, by decide, by decide⟩
    · exact (pot_ownN _ _ (by decide +kernel) (by decide +kernel) _).1
    · exact (pot_ownN _ _ (by decide +kernel) (by decide +kernel) _).2
    · exact Int.emod_nonneg _ (by decide)
    · exact Int.lt_trans (Int.emod_lt_of_pos _ (by decide)) (by decide)
end
section
variable {P : Program} {w : World} {K : PySem.W.Frag} {mg : Str → Option Value} {base : Heap}
theorem ok_below3 (S : Stands K mg "_law_below" s__law_below) (B : Blt mg) : Def P w K mg base CX0 1 "_law_below" s__law_below ["_law_draws_here", "_law_many"] spTake := by
  obtain ⟨f, fd, F, hm⟩ := S
  refine ⟨f, fd, F, hm, okG0 F sc__law_below (fun vs H Q E h => ?_) (fun cdv A outer s H vs Q E hg0 hr h => ?_)⟩
  · obtain ⟨p, u, n, rfl, _⟩ := h
    rfl
  · obtain ⟨p, u, n, rfl, ⟨a, b, c, hp, a0, a1, b0, b1, c0, c1⟩, hn, hu, hu2, q⟩ := h
    refine ⟨_, (pss_cons (ps_if (pt_cmpR op_gt (pe_ix ix_list (pv 0) pe_int (fun _ _ => rfl)) pe_int (nomark _)) (pss_cons (ps_set (i := 5) sc__law_below.nd rfl (Or.inl rfl) (pe_op op_mod (pe_ix ix_list (pv 0) pe_int (fun _ _ => rfl)) (pv 1)))
      (pss_cons (ps_asg (pe_op op_fdivW (pe_ix ix_list (pv 0) pe_int (fun _ _ => rfl)) (pv 1)) (pg_sub (pv 0) pe_int set_list))
      (pss_one (ps_ret (pv 5))))) pss_nil)
      (pss_cons (ps_set (i := 2) sc__law_below.nd rfl (Or.inl rfl) (pe_op op_add (pe_ix ix_list (pv 0) pe_int (fun _ _ => rfl)) pe_int))
      (pss_cons (ps_asg (pv 2) (pg_sub (pv 0) pe_int set_list))
      (pss_cons (ps_set (i := 3) sc__law_below.nd rfl (Or.inl rfl) (pe_ix ix_list (pe_lst (pa_cons pe_int (pa_cons pe_int (pa_cons pe_int (pa_cons pe_int pa_nil))))) (pe_op op_mod (pv 2) pe_int) (fun _ _ => rfl)))
      (pss_cons (ps_set (i := 4) sc__law_below.nd rfl (Or.inl rfl) (pe_op op_mod (pe_op op_add (pe_op op_add (pe_ix ix_list (pv 0) pe_int (fun _ _ => rfl)) (pe_op op_mul (pe_op op_mul pe_int (pv 2)) (pv 2))) (pe_op op_mul pe_int (pv 2))) (pv 3)))
      (pss_cons (ps_set (i := 4) sc__law_below.nd rfl (Or.inl rfl) (pe_op op_mod (pe_op op_pow (pv 4) pe_int) (pv 3)))
      (pss_one (ps_ret (pe_op op_mod (pe_op op_add (pe_op op_fdiv (pv 4) pe_int) (pe_op op_mul (pe_op op_fdiv (pv 4) pe_int) pe_int)) (pv 1)))))))))), ?_⟩
    refine ⟨_, rfl, p, _, 0, .int a, rfl, rfl, SqL.of hp, rfl, _, _, rfl, rfl, _, rfl, ite2 (fun ha => ?_) (fun ha => ?_)⟩
    · have ha := of_decide_eq_true ha
      refine ⟨_, rfl, p, _, 0, .int a, rfl, rfl, SqL.of hp, rfl, _, rfl, _, _, rfl, rfl, hu, ?_⟩
      refine ⟨_, rfl, p, _, 0, .int a, rfl, rfl, SqL.of hp, rfl, _, rfl, _, _, rfl, rfl, wide_div hu (b := 200) (by omega) (by decide) (by decide), ?_⟩
      refine ⟨_, rfl, p, _, 0, 0, rfl, rfl, hp, rfl, ?_⟩
      refine ⟨_, rfl, ?_⟩
      refine q _ _ Kp.self ⟨a / u, b, c, upd_same, Int.ediv_nonneg a0 (by omega), ?_, b0, b1, c0, by omega⟩ (Int.emod_nonneg _ (by omega)) (Int.emod_lt_of_pos _ hu)
      exact Int.lt_of_le_of_lt (Int.ediv_le_self u a0) a1
    · refine ⟨_, rfl, p, _, 2, .int c, rfl, rfl, SqL.of hp, rfl, _, _, rfl, rfl, ?_⟩
      repeat first | refine ⟨_, rfl, ?_⟩ | refine ⟨_, _, rfl, rfl, ?_⟩ | refine ⟨rfl, ?_⟩ | refine ⟨_, _, rfl, ?_⟩ | refine ⟨_, _, _, rfl, ?_⟩
      refine ⟨p, _, 2, 2, rfl, rfl, hp, rfl, ?_⟩
      have hp2 : upd H p (.lst [.int a, .int b, .int (c + 1)]) p = some (.lst [.int a, .int b, .int (c + 1)]) := upd_same
      repeat first | refine ⟨_, rfl, ?_⟩ | refine ⟨_, _, rfl, rfl, ?_⟩ | refine ⟨rfl, ?_⟩ | refine ⟨_, _, rfl, ?_⟩ | refine ⟨_, _, _, rfl, ?_⟩
      refine ⟨by show 4 ≤ sizeLine; decide, fun l hl => ?_⟩
      have nlp : p ≠ l := ne_of_none hp2 hl
      have hp3 : upd (upd H p (.lst [.int a, .int b, .int (c + 1)])) l (.lst [.int 2305843009213693951, .int 999999999989, .int 1000000000039, .int 67280421310721]) p = some (.lst [.int a, .int b, .int (c + 1)]) := by rw [upd_ne nlp]; exact hp2
      obtain ⟨pr, hpr, hpr1, hpr2⟩ := prime_at4 (c + 1)
      repeat first | refine ⟨_, rfl, ?_⟩ | refine ⟨_, _, rfl, rfl, ?_⟩ | refine ⟨rfl, ?_⟩ | refine ⟨_, _, rfl, ?_⟩ | refine ⟨_, _, _, rfl, ?_⟩
      refine ⟨(by show (0 : Int) < _; decide), l, _, _, .int pr, rfl, rfl, SqL.of upd_same, hpr, ?_⟩
      repeat first | refine ⟨_, rfl, ?_⟩ | refine ⟨_, _, rfl, rfl, ?_⟩ | refine ⟨rfl, ?_⟩ | refine ⟨_, _, rfl, ?_⟩ | refine ⟨_, _, _, rfl, ?_⟩
      refine ⟨p, _, 1, .int b, rfl, rfl, SqL.of hp3, rfl, ?_⟩
      repeat first | refine ⟨_, rfl, ?_⟩ | refine ⟨_, _, rfl, rfl, ?_⟩ | refine ⟨rfl, ?_⟩ | refine ⟨_, _, rfl, ?_⟩ | refine ⟨_, _, _, rfl, ?_⟩
      refine ⟨.inl ⟨by decide, by decide⟩, ?_⟩
      repeat first | refine ⟨_, rfl, ?_⟩ | refine ⟨_, _, rfl, rfl, ?_⟩ | refine ⟨rfl, ?_⟩ | refine ⟨_, _, rfl, ?_⟩ | refine ⟨_, _, _, rfl, ?_⟩
      refine ⟨.inr ⟨by omega, by omega⟩, ?_⟩
      repeat first | refine ⟨_, rfl, ?_⟩ | refine ⟨_, _, rfl, rfl, ?_⟩ | refine ⟨rfl, ?_⟩ | refine ⟨_, _, rfl, ?_⟩ | refine ⟨_, _, _, rfl, ?_⟩
      refine ⟨.inl ⟨by decide, by decide⟩, ?_⟩
      repeat first | refine ⟨_, rfl, ?_⟩ | refine ⟨_, _, rfl, rfl, ?_⟩ | refine ⟨rfl, ?_⟩ | refine ⟨_, _, rfl, ?_⟩ | refine ⟨_, _, _, rfl, ?_⟩
      refine ⟨by omega, ?_⟩
      have m0 := Int.emod_nonneg (b + 7919 * (c + 1) * (c + 1) + 65537 * (c + 1)) (show pr ≠ 0 by omega)
      have m1 := Int.emod_lt_of_pos (b + 7919 * (c + 1) * (c + 1) + 65537 * (c + 1)) (show 0 < pr by omega)
      dsimp only
      generalize (b + 7919 * (c + 1) * (c + 1) + 65537 * (c + 1)) % pr = mx at m0 m1 ⊢
      repeat first | refine ⟨_, rfl, ?_⟩ | refine ⟨_, _, rfl, rfl, ?_⟩ | refine ⟨rfl, ?_⟩ | refine ⟨_, _, rfl, ?_⟩ | refine ⟨_, _, _, rfl, ?_⟩
      refine ⟨⟨by decide, by decide, by omega⟩, ?_⟩
      repeat first | refine ⟨_, rfl, ?_⟩ | refine ⟨_, _, rfl, rfl, ?_⟩ | refine ⟨rfl, ?_⟩ | refine ⟨_, _, rfl, ?_⟩ | refine ⟨_, _, _, rfl, ?_⟩
      refine ⟨by omega, ?_⟩
      have v0 := Int.emod_nonneg (mx ^ Int.toNat 5) (show pr ≠ 0 by omega)
      have v1 := Int.emod_lt_of_pos (mx ^ Int.toNat 5) (show 0 < pr by omega)
      dsimp only
      generalize mx ^ Int.toNat 5 % pr = mz at v0 v1 ⊢
      repeat first | refine ⟨_, rfl, ?_⟩ | refine ⟨_, _, rfl, rfl, ?_⟩ | refine ⟨rfl, ?_⟩ | refine ⟨_, _, rfl, ?_⟩ | refine ⟨_, _, _, rfl, ?_⟩
      refine ⟨⟨by decide, by decide⟩, ?_⟩
      repeat first | refine ⟨_, rfl, ?_⟩ | refine ⟨_, _, rfl, rfl, ?_⟩ | refine ⟨rfl, ?_⟩ | refine ⟨_, _, rfl, ?_⟩ | refine ⟨_, _, _, rfl, ?_⟩
      refine ⟨⟨by decide, by decide⟩, ?_⟩
      repeat first | refine ⟨_, rfl, ?_⟩ | refine ⟨_, _, rfl, rfl, ?_⟩ | refine ⟨rfl, ?_⟩ | refine ⟨_, _, rfl, ?_⟩ | refine ⟨_, _, _, rfl, ?_⟩
      refine ⟨.inr ⟨by decide, by decide⟩, ?_⟩
      repeat first | refine ⟨_, rfl, ?_⟩ | refine ⟨_, _, rfl, rfl, ?_⟩ | refine ⟨rfl, ?_⟩ | refine ⟨_, _, rfl, ?_⟩ | refine ⟨_, _, _, rfl, ?_⟩
      refine ⟨hu, ?_⟩
      have kk : Kp p H (upd (upd H p (.lst [.int a, .int b, .int (c + 1)])) l (.lst [.int 2305843009213693951, .int 999999999989, .int 1000000000039, .int 67280421310721])) := Kp.self.trans (Kp.new hl)
      exact q _ _ kk ⟨a, b, c + 1, hp3, a0, a1, b0, b1, by omega, by omega⟩ (Int.emod_nonneg _ (by omega)) (Int.emod_lt_of_pos _ hu)
end
section
variable {P : Program} {w : World} {K : PySem.W.Frag} {mg : Str → Option Value} {base : Heap}
theorem ok_pick3 (S : Stands K mg "_law_pick" s__law_pick) (B : Blt mg) (D__law_below : Def P w K mg base CX0 1 "_law_below" s__law_below ["_law_draws_here", "_law_many"] spTake) : Def P w K mg base CX0 2 "_law_pick" s__law_pick ["_law_draws_here", "_law_items"] (spOf K) := by
  obtain ⟨f, fd, F, hm⟩ := S
  refine ⟨f, fd, F, hm, okG0 F sc__law_pick (fun vs H Q E h => ?_) (fun cdv A outer s H vs Q E hg hr h => ?_)⟩
  · obtain ⟨p, l, xs, n, rfl, _⟩ := h
    rfl
  · obtain ⟨p, l, xs, n, rfl, hp, hn, hS, hlp, h0, h1, q⟩ := h
    refine ⟨_, (pss_one (ps_ret (pe_ix ix_list (pv 1) (pe_callG D__law_below hg (hr.mono (by decide)) (by rfl) pass0 (fun _ _ _ _ _ _ us hl => match us, hl with | [_, _], _ => rfl) (pa_cons (pv 0) (pa_cons (pe_callB call_len_seq (by rfl) B.len PySem.boot_len (pa_cons (pv 1) pa_nil)) pa_nil))) (fun _ _ => rfl)))), ?_⟩
    refine ⟨_, rfl, _, rfl, _, rfl, l, _, rfl, .inl hS, p, _, n, rfl, hp, hn, by omega, by omega, fun H1 r k1 hp1 r0 r1 => ?_⟩
    obtain ⟨i, rfl⟩ := Int.eq_ofNat_of_zero_le r0
    have hi : i < xs.length := by omega
    refine ⟨l, _, _, xs[i], rfl, rfl, k1.seq hlp hS, atI_nat (List.getElem?_eq_getElem hi), ?_⟩
    exact q _ i _ k1 hp1 (List.getElem?_eq_getElem hi)
end
section
variable {P : Program} {w : World} {K : PySem.W.Frag} {mg : Str → Option Value} {base : Heap}
theorem ok_text3 (S : Stands K mg "_law_text" s__law_text) (B : Blt mg) (D__law_below : Def P w K mg base CX0 1 "_law_below" s__law_below ["_law_draws_here", "_law_many"] spTake) (D__law_pick : Def P w K mg base CX0 2 "_law_pick" s__law_pick ["_law_draws_here", "_law_items"] (spOf K)) :
    Def P w K mg base CX0 3 "_law_text" s__law_text ["_law_draws_here", "_law_width", "_law_most"] (spDrawn K) := by
  obtain ⟨f, fd, F, hm⟩ := S
  refine ⟨f, fd, F, hm, okG0 F sc__law_text (fun vs H Q E h => ?_) (fun cdv A outer s H vs Q E hg hr h => ?_)⟩
  · obtain ⟨p, m, k, n, rfl, _⟩ := h
    rfl
  · obtain ⟨p, m, k, n, rfl, hp, hn, m0, m1, k0, k1, q⟩ := h
    refine ⟨_, (pss_cons (ps_par3 (i := 3) (j := 4) (l := 5) (by rfl) sc__law_text.nd rfl rfl rfl (by decide) (by decide) (by decide) rfl rfl rfl (pa_cons (pe_callG D__law_below hg (hr.mono (by decide)) (by rfl) pass0 (fun _ _ _ _ _ _ us hl => match us, hl with | [_, _], _ => rfl) (pa_cons (pv 0) (pa_cons (pe_op op_add (pv 2) pe_int) pa_nil))) (pa_cons (pe_callG D__law_below hg (hr.mono (by decide)) (by rfl) pass0 (fun _ _ _ _ _ _ us hl => match us, hl with | [_, _], _ => rfl) (pa_cons (pv 0) (pa_cons pe_int pa_nil))) (pa_cons (pe_lst pa_nil) pa_nil))) (by rfl))
      (pss_cons (ps_par3 (i := 6) (j := 7) (l := 8) (by rfl) sc__law_text.nd rfl rfl rfl (by decide) (by decide) (by decide) rfl rfl rfl (pa_cons (pe_op op_add pe_int (pe_callG D__law_below hg (hr.mono (by decide)) (by rfl) pass0 (fun _ _ _ _ _ _ us hl => match us, hl with | [_, _], _ => rfl) (pa_cons (pv 0) (pa_cons (pv 1) pa_nil)))) (pa_cons (pe_op op_add pe_int (pe_callG D__law_below hg (hr.mono (by decide)) (by rfl) pass0 (fun _ _ _ _ _ _ us hl => match us, hl with | [_, _], _ => rfl) (pa_cons (pv 0) (pa_cons (pv 1) pa_nil)))) (pa_cons (pe_op op_add pe_int (pe_callG D__law_below hg (hr.mono (by decide)) (by rfl) pass0 (fun _ _ _ _ _ _ us hl => match us, hl with | [_, _], _ => rfl) (pa_cons (pv 0) (pa_cons pe_int pa_nil)))) pa_nil))) (by rfl))
      (pss_cons (ps_while PassesOwn.never (pt_cmpR op_lt (pe_callB call_len_seq (by rfl) B.len PySem.boot_len (pa_cons (pv 5) pa_nil)) (pv 3) (nomark _)) (pss_one (ps_if (PW.pt (pw_and (pt_cmpR op_eq (pv 4) pe_int (nomark _)) (pw_and1 (pt_cmpR op_ge (pe_callB call_len_seq (by rfl) B.len PySem.boot_len (pa_cons (pv 5) pa_nil)) (pv 8) (nomark _))))) (pss_one (ps_expr (pe_bm PySem.F.plainAttrs_list PySem.F.slot_list_append PySem.F.type_list_append mt_append (pv 5) (pa_cons (pe_ix ix_list (pv 5) (pe_op op_sub (pe_callB call_len_seq (by rfl) B.len PySem.boot_len (pa_cons (pv 5) pa_nil)) (pv 8)) (fun _ _ => rfl)) pa_nil)))) (pss_cons (ps_set (i := 9) sc__law_text.nd rfl (Or.inl rfl) (pe_lst (pa_cons (pv 6) (pa_cons (pv 7) (pa_cons (pe_op op_add pe_int (pe_callG D__law_below hg (hr.mono (by decide)) (by rfl) pass0 (fun _ _ _ _ _ _ us hl => match us, hl with | [_, _], _ => rfl) (pa_cons (pv 0) (pa_cons (pv 1) pa_nil)))) (pa_cons (pe_op op_add pe_int (pe_callG D__law_below hg (hr.mono (by decide)) (by rfl) pass0 (fun _ _ _ _ _ _ us hl => match us, hl with | [_, _], _ => rfl) (pa_cons (pv 0) (pa_cons (pe_callB (call_min2 rfl) (by rfl) B.min PyProof.Rows.boot_min (pa_cons pe_int (pa_cons (pv 1) pa_nil))) pa_nil)))) pa_nil))))))
      (pss_one (ps_expr (pe_bm PySem.F.plainAttrs_list PySem.F.slot_list_append PySem.F.type_list_append mt_append (pv 5) (pa_cons (pe_ifExp (pt_cmpR op_eq (pv 4) pe_int (nomark _)) (pe_ix ix_list (pv 9) pe_int (fun _ _ => rfl)) (pe_callG D__law_pick hg (hr.mono (by decide)) (by rfl) pass0 (fun _ _ _ _ _ _ us hl => match us, hl with | [_, _], _ => rfl) (pa_cons (pv 0) (pa_cons (pe_ifExp (pt_cmpR op_eq (pv 4) pe_int (nomark _)) (pe_slice sl_list (pv 9) po_none (po_some pe_int)) (pv 9)) pa_nil)))) pa_nil))))))))
      (pss_one (ps_ret (pe_callTy call_tuple_of (by rfl) B.tuple PyProof.Rows.boot_tuple (pa_cons (pv 5) pa_nil))))))), ?_⟩
    have p200 : (1000000000 : Int) < 2 ^ 200 := by decide +kernel
    have L4 : 4 ≤ sizeLine := by decide
    have c0 := Cr.start (K := K) hp
    repeat first | refine ⟨_, rfl, ?_⟩ | refine ⟨_, _, rfl, rfl, ?_⟩ | refine ⟨rfl, ?_⟩ | refine ⟨_, _, rfl, ?_⟩ | refine ⟨_, _, _, rfl, ?_⟩
    refine ⟨p, k + 1, n, rfl, hp, by omega, by omega, by omega, fun H1 cnt q1 hp1 z0 z1 => ?_⟩
    have c1 := c0.draw q1 hp1
    repeat first | refine ⟨_, rfl, ?_⟩ | refine ⟨_, _, rfl, rfl, ?_⟩ | refine ⟨rfl, ?_⟩ | refine ⟨_, _, rfl, ?_⟩ | refine ⟨_, _, _, rfl, ?_⟩
    refine ⟨p, 5, _, rfl, hp1, by omega, by decide, by decide, fun H2 way q2 hp2 w0 w1 => ⟨Nat.zero_le _, fun fl hfl => ?_⟩⟩
    have c2 := c1.draw q2 hp2
    repeat first | refine ⟨_, rfl, ?_⟩ | refine ⟨_, _, rfl, rfl, ?_⟩ | refine ⟨rfl, ?_⟩ | refine ⟨_, _, rfl, ?_⟩ | refine ⟨_, _, _, rfl, ?_⟩
    have c3 := c2.new (o := .lst []) hfl
    have nfp : fl ≠ p := c2.ne hfl
    have hf0 : H fl = none := c2.free hfl
    refine ⟨p, m, _, rfl, c3.pot, by omega, by omega, by omega, fun H3 a q3 hp3 a0 a1 => ⟨_, _, rfl, rfl, ?_⟩⟩
    have c4 := c3.draw q3 hp3
    repeat first | refine ⟨_, rfl, ?_⟩ | refine ⟨_, _, rfl, rfl, ?_⟩ | refine ⟨rfl, ?_⟩ | refine ⟨_, _, rfl, ?_⟩ | refine ⟨_, _, _, rfl, ?_⟩
    refine ⟨p, m, _, rfl, hp3, by omega, by omega, by omega, fun H4 b q4 hp4 b0 b1 => ⟨_, _, rfl, rfl, ?_⟩⟩
    have c5 := c4.draw q4 hp4
    repeat first | refine ⟨_, rfl, ?_⟩ | refine ⟨_, _, rfl, rfl, ?_⟩ | refine ⟨rfl, ?_⟩ | refine ⟨_, _, rfl, ?_⟩ | refine ⟨_, _, _, rfl, ?_⟩
    refine ⟨p, 4, _, rfl, hp4, by omega, by decide, by decide, fun H5 st q5 hp5 st0 st1 => ⟨_, _, rfl, rfl, ?_⟩⟩
    have c6 := c5.draw q5 hp5
    have eF : H5 fl = some (.lst []) := q5 _ _ nfp (q4 _ _ nfp (q3 _ _ nfp upd_same))
    clear c5 c4 c3 c2 c1 q5 q4 q3 hp4 hp3 hfl q1 q2 hp1 hp2
    repeat first | refine ⟨_, rfl, ?_⟩ | refine ⟨_, _, rfl, rfl, ?_⟩ | refine ⟨rfl, ?_⟩ | refine ⟨_, _, rfl, ?_⟩ | refine ⟨_, _, _, rfl, ?_⟩
    refine ⟨fun d σ G => ∃ (ns : List Int) (y9 : Option V), σ = [some (.ref p), some (.int m), some (.int k), some (.int cnt), some (.int way), some (.ref fl), some (.int (1 + a)), some (.int (1 + b)), some (.int (1 + st)), y9] ∧ Cr K p H G (n + 6 + 3 * ns.length) [] [] ∧ G fl = some (.lst (ns.map V.int)) ∧ (∀ x ∈ ns, 1 ≤ x ∧ x ≤ m) ∧ (ns.length : Int) + (d : Int) = cnt,
      ⟨cnt.toNat, [], _, rfl, c6.mono (by omega), eF, fun _ z => (nomatch z), by simp; omega⟩, ?_⟩
    rintro d σ G ⟨ns, y9, rfl, c, eF, hb, hd⟩
    have hcl : (ns.map V.int).length = ns.length := List.length_map ..
    repeat first | refine ⟨_, rfl, ?_⟩ | refine ⟨_, _, rfl, rfl, ?_⟩ | refine ⟨rfl, ?_⟩ | refine ⟨_, _, rfl, ?_⟩ | refine ⟨_, _, _, rfl, ?_⟩
    refine ⟨fl, _, rfl, .inl (SqL.of eF), ?_⟩
    rw [hcl]
    repeat first | refine ⟨_, rfl, ?_⟩ | refine ⟨_, _, rfl, rfl, ?_⟩ | refine ⟨rfl, ?_⟩ | refine ⟨_, _, rfl, ?_⟩ | refine ⟨_, _, _, rfl, ?_⟩
    refine ite2 (fun h => ?_) (fun h => ?_)
    · have h := of_decide_eq_true h
      match d, hd with
      | 0, hd => exact absurd h (by omega)
      | d + 1, hd =>
      have hlen : ns.length ≤ 60 := by omega
      refine ⟨fun σ' G2 => _, fun _ _ h => ⟨d, Nat.lt_succ_self d, h⟩, ?_⟩
      have hlenS : (ns.map V.int).length < sizeLine := by rw [hcl, sizeLine_eq]; omega
      have fin : ∀ (x : Int) (G2 : Hp) (y9 : Option V), Cr K p H G2 (n + 6 + 3 * ns.length + 3) [] [] → G2 fl = some (.lst (ns.map V.int)) → 1 ≤ x → x ≤ m → ∃ (ns' : List Int) (y9' : Option V), [some (V.ref p), some (.int m), some (.int k), some (.int cnt), some (.int way), some (.ref fl), some (.int (1 + a)), some (.int (1 + b)), some (.int (1 + st)), y9] = [some (V.ref p), some (.int m), some (.int k), some (.int cnt), some (.int way), some (.ref fl), some (.int (1 + a)), some (.int (1 + b)), some (.int (1 + st)), y9'] ∧
          Cr K p H (upd G2 fl (.lst (ns.map V.int ++ [.int x]))) (n + 6 + 3 * ns'.length) [] [] ∧ upd G2 fl (.lst (ns.map V.int ++ [.int x])) fl = some (.lst (ns'.map V.int)) ∧ (∀ x ∈ ns', 1 ≤ x ∧ x ≤ m) ∧ (ns'.length : Int) + (d : Int) = cnt := fun x G2 y9 c2 e2 x0 x1 => by
        refine ⟨ns ++ [x], y9, rfl, ?_, ?_, ?_, ?_⟩
        · refine (c2.set hf0 nfp).mono ?_
          rw [List.length_append]
          show _ ≤ n + 6 + 3 * (ns.length + 1)
          omega
        · rw [upd_same, List.map_append]
          rfl
        · intro y hy
          rcases List.mem_append.mp hy with hy | hy
          · exact hb y hy
          · obtain rfl := List.mem_singleton.mp hy
            exact ⟨x0, x1⟩
        · rw [List.length_append]
          show ((ns.length + 1 : Nat) : Int) + _ = _
          omega
      repeat first | refine ⟨_, rfl, ?_⟩ | refine ⟨_, _, rfl, rfl, ?_⟩ | refine ⟨rfl, ?_⟩ | refine ⟨_, _, rfl, ?_⟩ | refine ⟨_, _, _, rfl, ?_⟩
      refine ite2 (fun hw => ?_) (fun hw => ?_)
      · repeat first | refine ⟨_, rfl, ?_⟩ | refine ⟨_, _, rfl, rfl, ?_⟩ | refine ⟨rfl, ?_⟩ | refine ⟨_, _, rfl, ?_⟩ | refine ⟨_, _, _, rfl, ?_⟩
        refine ⟨fl, _, rfl, .inl (SqL.of eF), ?_⟩
        rw [hcl]
        repeat first | refine ⟨_, rfl, ?_⟩ | refine ⟨_, _, rfl, rfl, ?_⟩ | refine ⟨rfl, ?_⟩ | refine ⟨_, _, rfl, ?_⟩ | refine ⟨_, _, _, rfl, ?_⟩
        refine ite2 (fun hs => ?_) (fun hs => ?_)
        · have hs := of_decide_eq_true hs
          repeat first | refine ⟨_, rfl, ?_⟩ | refine ⟨_, _, rfl, rfl, ?_⟩ | refine ⟨rfl, ?_⟩ | refine ⟨_, _, rfl, ?_⟩ | refine ⟨_, _, _, rfl, ?_⟩
          refine ⟨.inl ⟨rfl, _, SqL.of eF⟩, ?_⟩
          repeat first | refine ⟨_, rfl, ?_⟩ | refine ⟨_, _, rfl, rfl, ?_⟩ | refine ⟨rfl, ?_⟩ | refine ⟨_, _, rfl, ?_⟩ | refine ⟨_, _, _, rfl, ?_⟩
          refine ⟨fl, _, rfl, .inl (SqL.of eF), ?_⟩
          rw [hcl]
          obtain ⟨i, hi⟩ : ∃ i : Nat, (ns.length : Int) - (1 + st) = (i : Int) := ⟨((ns.length : Int) - (1 + st)).toNat, by omega⟩
          have hil : i < ns.length := by omega
          repeat first | refine ⟨_, rfl, ?_⟩ | refine ⟨_, _, rfl, rfl, ?_⟩ | refine ⟨rfl, ?_⟩ | refine ⟨_, _, rfl, ?_⟩ | refine ⟨_, _, _, rfl, ?_⟩
          refine ⟨fl, _, _, .int ns[i], rfl, rfl, SqL.of eF, by
            show atI _ ((ns.length : Int) - (1 + st)) = _
            rw [hi]
            exact atI_nat (by rw [List.getElem?_map, List.getElem?_eq_getElem hil]; rfl), ?_⟩
          repeat first | refine ⟨_, rfl, ?_⟩ | refine ⟨_, _, rfl, rfl, ?_⟩ | refine ⟨rfl, ?_⟩ | refine ⟨_, _, rfl, ?_⟩ | refine ⟨_, _, _, rfl, ?_⟩
          obtain ⟨x0, x1⟩ := hb ns[i] (List.getElem_mem hil)
          exact ⟨fl, _, _, rfl, rfl, eF, hlenS, fin _ G _ (c.mono (by omega)) eF x0 x1⟩
        · repeat first | refine ⟨_, rfl, ?_⟩ | refine ⟨_, _, rfl, rfl, ?_⟩ | refine ⟨rfl, ?_⟩ | refine ⟨_, _, rfl, ?_⟩ | refine ⟨_, _, _, rfl, ?_⟩
          refine ⟨p, m, _, rfl, c.pot, by omega, by omega, by omega, fun G1 x3 g1 gp1 u0 u1 => ⟨_, _, rfl, rfl, ?_⟩⟩
          have c1 := c.draw g1 gp1
          repeat first | refine ⟨_, rfl, ?_⟩ | refine ⟨_, _, rfl, rfl, ?_⟩ | refine ⟨rfl, ?_⟩ | refine ⟨_, _, rfl, ?_⟩ | refine ⟨_, _, _, rfl, ?_⟩
          have hmn : 1 ≤ (if m < 3 then m else (3 : Int)) ∧ (if m < 3 then m else (3 : Int)) ≤ m := by
            split <;> omega
          refine ⟨p, _, _, rfl, gp1, by omega, by show 0 < (if m < 3 then m else (3 : Int)); omega, by show (if m < 3 then m else (3 : Int)) < _; omega, fun G2 x4 g2 gp2 v0 v1 => ⟨_, _, rfl, rfl, L4, fun l3 hl3 => ?_⟩⟩
          have v1 : x4 < (if m < 3 then m else (3 : Int)) := v1
          have c2 := c1.draw g2 gp2
          have c3 := c2.new (o := .lst [.int (1 + a), .int (1 + b), .int (1 + x3), .int (1 + x4)]) hl3
          have e3 := upd_same (H := G2) (a := l3) (o := .lst [.int (1 + a), .int (1 + b), .int (1 + x3), .int (1 + x4)])
          have nl3 : l3 ≠ p := c2.ne hl3
          have eF3 : upd G2 l3 (.lst [.int (1 + a), .int (1 + b), .int (1 + x3), .int (1 + x4)]) fl = some (.lst (ns.map V.int)) := new_past hl3 (g2 _ _ nfp (g1 _ _ nfp eF))
          generalize upd G2 l3 (.lst [.int (1 + a), .int (1 + b), .int (1 + x3), .int (1 + x4)]) = G3 at c3 e3 eF3 ⊢
          repeat first | refine ⟨_, rfl, ?_⟩ | refine ⟨_, _, rfl, rfl, ?_⟩ | refine ⟨rfl, ?_⟩ | refine ⟨_, _, rfl, ?_⟩ | refine ⟨_, _, _, rfl, ?_⟩
          refine ⟨.inl ⟨rfl, _, SqL.of eF3⟩, ?_⟩
          repeat first | refine ⟨_, rfl, ?_⟩ | refine ⟨_, _, rfl, rfl, ?_⟩ | refine ⟨rfl, ?_⟩ | refine ⟨_, _, rfl, ?_⟩ | refine ⟨_, _, _, rfl, ?_⟩
          refine ite2 (fun h0 => ?_) (fun h0 => ?_)
          · repeat first | refine ⟨_, rfl, ?_⟩ | refine ⟨_, _, rfl, rfl, ?_⟩ | refine ⟨rfl, ?_⟩ | refine ⟨_, _, rfl, ?_⟩ | refine ⟨_, _, _, rfl, ?_⟩
            refine ⟨l3, _, _, .int (1 + a), rfl, rfl, SqL.of e3, atI_nat (j := 0) rfl, ?_⟩
            repeat first | refine ⟨_, rfl, ?_⟩ | refine ⟨_, _, rfl, rfl, ?_⟩ | refine ⟨rfl, ?_⟩ | refine ⟨_, _, rfl, ?_⟩ | refine ⟨_, _, _, rfl, ?_⟩
            exact ⟨fl, _, _, rfl, rfl, eF3, hlenS, fin _ G3 _ (c3.mono (by omega)) eF3 (by omega) (by omega)⟩
          · repeat first | refine ⟨_, rfl, ?_⟩ | refine ⟨_, _, rfl, rfl, ?_⟩ | refine ⟨rfl, ?_⟩ | refine ⟨_, _, rfl, ?_⟩ | refine ⟨_, _, _, rfl, ?_⟩
            refine ite2 (fun h1 => ?_) (fun h1 => ?_)
            · repeat first | refine ⟨_, rfl, ?_⟩ | refine ⟨_, _, rfl, rfl, ?_⟩ | refine ⟨rfl, ?_⟩ | refine ⟨_, _, rfl, ?_⟩ | refine ⟨_, _, _, rfl, ?_⟩
              refine ⟨l3, _, rfl, SqL.of e3, fun l4 hl4 => ?_⟩
              rw [show cutV [V.int (1 + a), V.int (1 + b), V.int (1 + x3), V.int (1 + x4)] none (some 2) = [V.int (1 + a), V.int (1 + b)] from cut_to _ 2]
              have c4 := c3.new (o := .lst [.int (1 + a), .int (1 + b)]) hl4
              have eF4 := new_past (o := .lst [.int (1 + a), .int (1 + b)]) hl4 eF3
              refine ⟨p, l4, _, _, rfl, c4.pot, by omega, SqL.of upd_same, c3.ne hl4, (by show 0 < 2; decide), (by show 2 < 1000000; decide), fun G4 i x g4 gp4 hx => ?_⟩
              have c5 := c4.draw g4 gp4
              obtain ⟨z, rfl, z0, z1⟩ : ∃ z : Int, x = .int z ∧ 1 ≤ z ∧ z ≤ m := by
                match i, hx with
                | 0, e => exact ⟨1 + a, (Option.some.inj e).symm, by omega, by omega⟩
                | 1, e => exact ⟨1 + b, (Option.some.inj e).symm, by omega, by omega⟩
              repeat first | refine ⟨_, rfl, ?_⟩ | refine ⟨_, _, rfl, rfl, ?_⟩ | refine ⟨rfl, ?_⟩ | refine ⟨_, _, rfl, ?_⟩ | refine ⟨_, _, _, rfl, ?_⟩
              exact ⟨fl, _, _, rfl, rfl, g4 _ _ nfp eF4, hlenS, fin _ G4 _ (c5.mono (by omega)) (g4 _ _ nfp eF4) z0 z1⟩
            · repeat first | refine ⟨_, rfl, ?_⟩ | refine ⟨_, _, rfl, rfl, ?_⟩ | refine ⟨rfl, ?_⟩ | refine ⟨_, _, rfl, ?_⟩ | refine ⟨_, _, _, rfl, ?_⟩
              refine ⟨p, l3, _, _, rfl, c3.pot, by omega, SqL.of e3, nl3, (by show 0 < 4; decide), (by show 4 < 1000000; decide), fun G4 i x g4 gp4 hx => ?_⟩
              have c5 := c3.draw g4 gp4
              obtain ⟨z, rfl, z0, z1⟩ : ∃ z : Int, x = .int z ∧ 1 ≤ z ∧ z ≤ m := by
                match i, hx with
                | 0, e => exact ⟨1 + a, (Option.some.inj e).symm, by omega, by omega⟩
                | 1, e => exact ⟨1 + b, (Option.some.inj e).symm, by omega, by omega⟩
                | 2, e => exact ⟨1 + x3, (Option.some.inj e).symm, by omega, by omega⟩
                | 3, e => exact ⟨1 + x4, (Option.some.inj e).symm, by omega, by omega⟩
              repeat first | refine ⟨_, rfl, ?_⟩ | refine ⟨_, _, rfl, rfl, ?_⟩ | refine ⟨rfl, ?_⟩ | refine ⟨_, _, rfl, ?_⟩ | refine ⟨_, _, _, rfl, ?_⟩
              exact ⟨fl, _, _, rfl, rfl, g4 _ _ nfp eF3, hlenS, fin _ G4 _ (c5.mono (by omega)) (g4 _ _ nfp eF3) z0 z1⟩
      · repeat first | refine ⟨_, rfl, ?_⟩ | refine ⟨_, _, rfl, rfl, ?_⟩ | refine ⟨rfl, ?_⟩ | refine ⟨_, _, rfl, ?_⟩ | refine ⟨_, _, _, rfl, ?_⟩
        refine ⟨p, m, _, rfl, c.pot, by omega, by omega, by omega, fun G1 x3 g1 gp1 u0 u1 => ⟨_, _, rfl, rfl, ?_⟩⟩
        have c1 := c.draw g1 gp1
        repeat first | refine ⟨_, rfl, ?_⟩ | refine ⟨_, _, rfl, rfl, ?_⟩ | refine ⟨rfl, ?_⟩ | refine ⟨_, _, rfl, ?_⟩ | refine ⟨_, _, _, rfl, ?_⟩
        have hmn : 1 ≤ (if m < 3 then m else (3 : Int)) ∧ (if m < 3 then m else (3 : Int)) ≤ m := by
          split <;> omega
        refine ⟨p, _, _, rfl, gp1, by omega, by show 0 < (if m < 3 then m else (3 : Int)); omega, by show (if m < 3 then m else (3 : Int)) < _; omega, fun G2 x4 g2 gp2 v0 v1 => ⟨_, _, rfl, rfl, L4, fun l3 hl3 => ?_⟩⟩
        have v1 : x4 < (if m < 3 then m else (3 : Int)) := v1
        have c2 := c1.draw g2 gp2
        have c3 := c2.new (o := .lst [.int (1 + a), .int (1 + b), .int (1 + x3), .int (1 + x4)]) hl3
        have e3 := upd_same (H := G2) (a := l3) (o := .lst [.int (1 + a), .int (1 + b), .int (1 + x3), .int (1 + x4)])
        have nl3 : l3 ≠ p := c2.ne hl3
        have eF3 : upd G2 l3 (.lst [.int (1 + a), .int (1 + b), .int (1 + x3), .int (1 + x4)]) fl = some (.lst (ns.map V.int)) := new_past hl3 (g2 _ _ nfp (g1 _ _ nfp eF))
        generalize upd G2 l3 (.lst [.int (1 + a), .int (1 + b), .int (1 + x3), .int (1 + x4)]) = G3 at c3 e3 eF3 ⊢
        repeat first | refine ⟨_, rfl, ?_⟩ | refine ⟨_, _, rfl, rfl, ?_⟩ | refine ⟨rfl, ?_⟩ | refine ⟨_, _, rfl, ?_⟩ | refine ⟨_, _, _, rfl, ?_⟩
        refine ⟨.inl ⟨rfl, _, SqL.of eF3⟩, ?_⟩
        repeat first | refine ⟨_, rfl, ?_⟩ | refine ⟨_, _, rfl, rfl, ?_⟩ | refine ⟨rfl, ?_⟩ | refine ⟨_, _, rfl, ?_⟩ | refine ⟨_, _, _, rfl, ?_⟩
        refine ite2 (fun h0 => ?_) (fun h0 => ?_)
        · repeat first | refine ⟨_, rfl, ?_⟩ | refine ⟨_, _, rfl, rfl, ?_⟩ | refine ⟨rfl, ?_⟩ | refine ⟨_, _, rfl, ?_⟩ | refine ⟨_, _, _, rfl, ?_⟩
          refine ⟨l3, _, _, .int (1 + a), rfl, rfl, SqL.of e3, atI_nat (j := 0) rfl, ?_⟩
          repeat first | refine ⟨_, rfl, ?_⟩ | refine ⟨_, _, rfl, rfl, ?_⟩ | refine ⟨rfl, ?_⟩ | refine ⟨_, _, rfl, ?_⟩ | refine ⟨_, _, _, rfl, ?_⟩
          exact ⟨fl, _, _, rfl, rfl, eF3, hlenS, fin _ G3 _ (c3.mono (by omega)) eF3 (by omega) (by omega)⟩
        · repeat first | refine ⟨_, rfl, ?_⟩ | refine ⟨_, _, rfl, rfl, ?_⟩ | refine ⟨rfl, ?_⟩ | refine ⟨_, _, rfl, ?_⟩ | refine ⟨_, _, _, rfl, ?_⟩
          refine ite2 (fun h1 => ?_) (fun h1 => ?_)
          · repeat first | refine ⟨_, rfl, ?_⟩ | refine ⟨_, _, rfl, rfl, ?_⟩ | refine ⟨rfl, ?_⟩ | refine ⟨_, _, rfl, ?_⟩ | refine ⟨_, _, _, rfl, ?_⟩
            refine ⟨l3, _, rfl, SqL.of e3, fun l4 hl4 => ?_⟩
            rw [show cutV [V.int (1 + a), V.int (1 + b), V.int (1 + x3), V.int (1 + x4)] none (some 2) = [V.int (1 + a), V.int (1 + b)] from cut_to _ 2]
            have c4 := c3.new (o := .lst [.int (1 + a), .int (1 + b)]) hl4
            have eF4 := new_past (o := .lst [.int (1 + a), .int (1 + b)]) hl4 eF3
            refine ⟨p, l4, _, _, rfl, c4.pot, by omega, SqL.of upd_same, c3.ne hl4, (by show 0 < 2; decide), (by show 2 < 1000000; decide), fun G4 i x g4 gp4 hx => ?_⟩
            have c5 := c4.draw g4 gp4
            obtain ⟨z, rfl, z0, z1⟩ : ∃ z : Int, x = .int z ∧ 1 ≤ z ∧ z ≤ m := by
              match i, hx with
              | 0, e => exact ⟨1 + a, (Option.some.inj e).symm, by omega, by omega⟩
              | 1, e => exact ⟨1 + b, (Option.some.inj e).symm, by omega, by omega⟩
            repeat first | refine ⟨_, rfl, ?_⟩ | refine ⟨_, _, rfl, rfl, ?_⟩ | refine ⟨rfl, ?_⟩ | refine ⟨_, _, rfl, ?_⟩ | refine ⟨_, _, _, rfl, ?_⟩
            exact ⟨fl, _, _, rfl, rfl, g4 _ _ nfp eF4, hlenS, fin _ G4 _ (c5.mono (by omega)) (g4 _ _ nfp eF4) z0 z1⟩
          · repeat first | refine ⟨_, rfl, ?_⟩ | refine ⟨_, _, rfl, rfl, ?_⟩ | refine ⟨rfl, ?_⟩ | refine ⟨_, _, rfl, ?_⟩ | refine ⟨_, _, _, rfl, ?_⟩
            refine ⟨p, l3, _, _, rfl, c3.pot, by omega, SqL.of e3, nl3, (by show 0 < 4; decide), (by show 4 < 1000000; decide), fun G4 i x g4 gp4 hx => ?_⟩
            have c5 := c3.draw g4 gp4
            obtain ⟨z, rfl, z0, z1⟩ : ∃ z : Int, x = .int z ∧ 1 ≤ z ∧ z ≤ m := by
              match i, hx with
              | 0, e => exact ⟨1 + a, (Option.some.inj e).symm, by omega, by omega⟩
              | 1, e => exact ⟨1 + b, (Option.some.inj e).symm, by omega, by omega⟩
              | 2, e => exact ⟨1 + x3, (Option.some.inj e).symm, by omega, by omega⟩
              | 3, e => exact ⟨1 + x4, (Option.some.inj e).symm, by omega, by omega⟩
            repeat first | refine ⟨_, rfl, ?_⟩ | refine ⟨_, _, rfl, rfl, ?_⟩ | refine ⟨rfl, ?_⟩ | refine ⟨_, _, rfl, ?_⟩ | refine ⟨_, _, _, rfl, ?_⟩
            exact ⟨fl, _, _, rfl, rfl, g4 _ _ nfp eF3, hlenS, fin _ G4 _ (c5.mono (by omega)) (g4 _ _ nfp eF3) z0 z1⟩
    · repeat first | refine ⟨_, rfl, ?_⟩ | refine ⟨_, _, rfl, rfl, ?_⟩ | refine ⟨rfl, ?_⟩ | refine ⟨_, _, rfl, ?_⟩ | refine ⟨_, _, _, rfl, ?_⟩
      refine ⟨fl, _, rfl, .inl ⟨SqL.of eF, fun t ht => ?_⟩⟩
      have c8 := c.new (o := .tup (ns.map V.int)) ht
      exact q _ t ns c8.k (c8.pot.mono (by omega)) upd_same (by omega) hb
end
section
variable {P : Program} {w : World} {K : PySem.W.Frag} {mg : Str → Option Value} {base : Heap}
theorem ok_futs3 (S : Stands K mg "_law_futures" s__law_futures) (B : Blt mg) : Def P w K mg base CX0 1 "_law_futures" s__law_futures ["_law_width"] (spFew K) := by
  obtain ⟨f, fd, F, hm⟩ := S
  refine ⟨f, fd, F, hm, okG0 F sc__law_futures (fun vs H Q E h => ?_) (fun cdv A outer s H vs Q E hg hr h => ?_)⟩
  · obtain ⟨m, rfl, _⟩ := h
    rfl
  · obtain ⟨m, rfl, m0, m1, q⟩ := h
    refine ⟨_, (pss_cons (ps_set (i := 1) sc__law_futures.nd rfl (Or.inl rfl) (pe_lst (pa_cons (pe_tup pa_nil) pa_nil)))
      (pss_cons (ps_for PassesOwn.never rfl (pi_range2 (by rfl) B.range (pa_cons pe_int (pa_cons (pe_op op_add (pv 0) pe_int) pa_nil))) (pg_name (i := 2) sc__law_futures.nd rfl (Or.inl rfl)) (pss_one (ps_expr (pe_bm PySem.F.plainAttrs_list PySem.F.slot_list_extend PySem.F.type_list_extend mt_extend (pv 1) (pa_cons (pe_lst (pa_cons (pe_tup (pa_cons (pv 2) pa_nil)) (pa_cons (pe_tup (pa_cons (pv 2) (pa_cons (pv 0) pa_nil))) pa_nil))) pa_nil)))))
      (pss_one (ps_ret (pv 1))))), ?_⟩
    have L1 : 1 ≤ sizeLine := by decide
    have L2_ : 2 ≤ sizeLine := by decide
    refine ⟨Nat.zero_le _, fun t0 ht0 => ⟨L1, fun l hl => ?_⟩⟩
    have n1 := Same.new (o := .tup []) ht0
    have n2 := Same.new (o := .lst [.ref t0]) hl
    have z2 := same_tr n1 n2
    have hl0 : H l = none := same_free n1 hl
    have eL := upd_same (H := upd H t0 (.tup [])) (a := l) (o := .lst [.ref t0])
    have hA0 : AllAt (RwAt K (upd (upd H t0 (.tup [])) l (.lst [.ref t0]))) [V.ref t0] (fewF m 0) := AllAt.push AllAt.nil (SqT.of (n2 _ _ upd_same))
    repeat first | refine ⟨_, rfl, ?_⟩ | refine ⟨_, _, rfl, rfl, ?_⟩ | refine ⟨rfl, ?_⟩ | refine ⟨_, _, rfl, ?_⟩ | refine ⟨_, _, _, rfl, ?_⟩
    refine ⟨⟨by omega, by omega, by omega, by omega⟩, ?_⟩
    refine for_range (lo := 1) (n := (m + 1 - 1).toNat) (fun i σ G => ∃ (rs : List V) (y2 : Option V), σ = [some (.int m), some (.ref l), y2] ∧ Same H G ∧ G l = some (.lst rs) ∧ AllAt (RwAt K G) rs (fewF m i)) ⟨_, _, rfl, z2, eL, hA0⟩ ?_ ?_
    · rintro i σ G hi ⟨rs, y2, rfl, sG, eG, hA⟩
      have hlr : rs.length = 1 + 2 * i := by rw [hA.1, fewF_len]
      refine ⟨_, rfl, .inl ⟨rfl, _, SqL.of eG⟩, ?_⟩
      refine ⟨_, rfl, L1, fun t1 ht1 => ⟨_, rfl, _, rfl, L2_, fun t2 ht2 => ⟨L2_, fun l2 hl2 => ?_⟩⟩⟩
      have w1 := Same.new (o := .tup [.int (1 + (i : Int))]) ht1
      have w2 := Same.new (o := .tup [.int (1 + (i : Int)), .int m]) ht2
      have w3 := Same.new (o := .lst [.ref t1, .ref t2]) hl2
      have w := same_tr w1 (same_tr w2 w3)
      have eG3 := w _ _ eG
      have e1 : SqT K (upd (upd (upd G t1 (.tup [.int (1 + (i : Int))])) t2 (.tup [.int (1 + (i : Int)), .int m])) l2 (.lst [.ref t1, .ref t2])) t1 ([(1 : Int) + (i : Int)].map V.int) := SqT.of ((same_tr w2 w3) _ _ upd_same)
      have e2 : SqT K (upd (upd (upd G t1 (.tup [.int (1 + (i : Int))])) t2 (.tup [.int (1 + (i : Int)), .int m])) l2 (.lst [.ref t1, .ref t2])) t2 ([(1 : Int) + (i : Int), m].map V.int) := SqT.of (w3 _ _ upd_same)
      refine ⟨l, l2, _, _, rfl, rfl, eG3, upd_same, ?_, ?_⟩
      · rw [hlr, sizeLine_eq]
        show 1 + 2 * i + 2 ≤ _
        omega
      refine ⟨_, _, rfl, Same.set (same_tr sG w) hl0, upd_same, ?_⟩
      rw [fewF_succ]
      refine ((hA.mono (RwAt.same w)).mono (RwAt.lst eG3)).app ?_
      exact AllAt.push (AllAt.push AllAt.nil (RwAt.lst eG3 _ _ e1)) (RwAt.lst eG3 _ _ e2)
    · rintro σ G ⟨rs, y2, rfl, sG, eG, hA⟩
      rw [show m + 1 - 1 = m by omega] at hA
      exact ⟨_, rfl, q G l rs sG hl0 eG hA⟩
end
section
variable {P : Program} {w : World} {K : PySem.W.Frag} {mg : Str → Option Value} {base : Heap}
theorem ok_solved (S : Stands K mg "_law_solved" s__law_solved) (B : Blt mg) : Def P w K mg base CX0 1 "_law_solved" s__law_solved ["_law_width", "_law_text_here"] (spTab2 K) := by
  obtain ⟨f, fd, F, hm⟩ := S
  refine ⟨f, fd, F, hm, okG0 F sc__law_solved (fun vs H Q E h => ?_) (fun cdv A outer s H vs Q E hg hr h => ?_)⟩
  · obtain ⟨m, t, ns, rfl, _⟩ := h
    rfl
  · obtain ⟨m, t, ns, rfl, hT, hF, m0, m1, hn, q⟩ := h
    refine ⟨_, (pss_cons (ps_par (i := 3) (j := 4) (by rfl) sc__law_solved.nd rfl rfl (by decide) rfl rfl (pa_cons (pe_lst (pa_cons pe_int pa_nil)) (pa_cons (pe_lst (pa_cons pe_int pa_nil)) pa_nil)) (by rfl))
      (pss_cons (ps_for PassesOwn.never rfl (pi_range2 (by rfl) B.range (pa_cons pe_int (pa_cons (pe_op op_add (pe_callB call_len_seq (by rfl) B.len PySem.boot_len (pa_cons (pv 1) pa_nil)) pe_int) pa_nil))) (pg_name (i := 2) sc__law_solved.nd rfl (Or.inl rfl)) (pss_cons (ps_par (i := 6) (j := 7) (by rfl) sc__law_solved.nd rfl rfl (by decide) rfl rfl (pa_cons (pe_ix ix_tup (pv 1) (pe_op op_sub (pv 2) pe_int) (fun _ _ => rfl)) (pa_cons (pe_op op_sub (pv 2) pe_int) pa_nil)) (by rfl))
      (pss_cons (ps_set (i := 5) sc__law_solved.nd rfl (Or.inl rfl) (pe_tup (pa_cons (pe_op op_add (pe_ix ix_list (pv 3) (pv 7) (fun _ _ => rfl)) (pe_op op_pow (pe_op op_sub (pv 0) (pv 6)) pe_int)) (pa_cons (pv 7) pa_nil))))
      (pss_cons (ps_while PassesOwn.never (PW.pt (pw_and (pt_cmpR op_ge (pv 7) pe_int (nomark _)) (pw_and1 (pt_cmpR op_le (pv 6) (pv 0) (nomark _))))) (pss_cons (ps_set (i := 8) sc__law_solved.nd rfl (Or.inl rfl) (pe_op op_add (pe_ix ix_list (pv 3) (pv 7) (fun _ _ => rfl)) (pe_op op_pow (pe_op op_sub (pv 0) (pv 6)) pe_int)))
      (pss_cons (ps_if (pt_cmpR op_lt (pv 8) (pe_ix ix_tup (pv 5) pe_int (fun _ _ => rfl)) (nomark _)) (pss_one (ps_set (i := 5) sc__law_solved.nd rfl (Or.inl rfl) (pe_tup (pa_cons (pv 8) (pa_cons (pv 7) pa_nil))))) pss_nil)
      (pss_cons (ps_set (i := 7) sc__law_solved.nd rfl (Or.inl rfl) (pe_op op_sub (pv 7) pe_int))
      (pss_one (ps_set (i := 6) sc__law_solved.nd rfl (Or.inl rfl) (pe_op op_add (pe_op op_add (pv 6) pe_int) (pe_ix ix_tup (pv 1) (pe_callB (call_max2 rfl) (by rfl) B.max PyProof.Rows.boot_max (pa_cons pe_int (pa_cons (pv 7) pa_nil))) (fun _ _ => rfl)))))))))
      (pss_cons (ps_expr (pe_bm PySem.F.plainAttrs_list PySem.F.slot_list_append PySem.F.type_list_append mt_append (pv 3) (pa_cons (pe_ix ix_tup (pv 5) pe_int (fun _ _ => rfl)) pa_nil)))
      (pss_one (ps_expr (pe_bm PySem.F.plainAttrs_list PySem.F.slot_list_append PySem.F.type_list_append mt_append (pv 4) (pa_cons (pe_ix ix_tup (pv 5) pe_int (fun _ _ => rfl)) pa_nil)))))))))
      (pss_one (ps_ret (pe_tup (pa_cons (pv 3) (pa_cons (pv 4) pa_nil))))))), ?_⟩
    have L1 : 1 ≤ sizeLine := by decide
    have L2_ : 2 ≤ sizeLine := by decide
    have hcl : (ns.map V.int).length = ns.length := List.length_map ..
    refine ⟨L1, fun lp hlp => ⟨L1, fun lb hlb => ⟨_, _, rfl, ?_⟩⟩⟩
    have n1 := Same.new (o := .lst [.int 0]) hlp
    have n2 := Same.new (o := .lst [.int 0]) hlb
    have eP := n2 _ _ (upd_same (H := H) (a := lp) (o := .lst [.int 0]))
    have eB := upd_same (H := upd H lp (.lst [.int 0])) (a := lb) (o := .lst [.int 0])
    have npb : lp ≠ lb := ne_of_none upd_same hlb
    have hb0 : H lb = none := same_free n1 hlb
    have z := same_tr n1 n2
    generalize upd (upd H lp (.lst [.int 0])) lb (.lst [.int 0]) = G0 at eP eB z ⊢
    refine ⟨_, rfl, t, _, rfl, .inr (Same.tup z hT), _, _, rfl, rfl, ?_⟩
    have hcs : ∀ k, (cs (nsOf ns) m k).length = k + 1 := fun k => cs_len k
    refine ⟨_, _, rfl, ⟨by decide, by decide, by omega, by omega⟩, ?_⟩
    have hn1 : ((((ns.map V.int).length : Nat) : Int) + 1 - 1).toNat = ns.length := by omega
    rw [hn1]
    refine for_range (lo := 1) (n := ns.length) (fun i σ G => ∃ y2 y5 y6 y7 y8, σ = [some (.int m), some (.ref t), y2, some (.ref lp), some (.ref lb), y5, y6, y7, y8] ∧ Same H G ∧ G lp = some (.lst ((cs (nsOf ns) m i).map V.int)) ∧ G lb = some (.lst ((bgs (nsOf ns) m i).map natV)))
      ⟨_, _, _, _, _, rfl, z, eP, eB⟩ ?_ ?_
    · rintro i σ G hi ⟨y2, y5, y6, y7, y8, rfl, sG, eP, eB⟩
      have ei : (1 : Int) + (i : Int) = ((i + 1 : Nat) : Int) := by omega
      rw [ei]
      have hT0 := Same.tup sG hT
      have ei1 : ((i + 1 : Nat) : Int) - 1 = (i : Int) := by omega
      repeat first | refine ⟨_, rfl, ?_⟩ | refine ⟨_, _, rfl, rfl, ?_⟩ | refine ⟨rfl, ?_⟩ | refine ⟨_, _, rfl, ?_⟩ | refine ⟨_, _, _, rfl, ?_⟩
      refine ⟨t, _, _, .int (nsOf ns i), rfl, rfl, hT0, by
        show atI _ (((i + 1 : Nat) : Int) - 1) = _
        rw [ei1]
        exact atI_nat (nsOf_at (by omega)), ?_⟩
      repeat first | refine ⟨_, rfl, ?_⟩ | refine ⟨_, _, rfl, rfl, ?_⟩ | refine ⟨rfl, ?_⟩ | refine ⟨_, _, rfl, ?_⟩ | refine ⟨_, _, _, rfl, ?_⟩
      refine ⟨lp, _, _, .int ((cs (nsOf ns) m i).getD i 0), rfl, rfl, SqL.of eP, by
        show atI _ (((i + 1 : Nat) : Int) - 1) = _
        rw [ei1]
        exact atI_nat (getD_at (by rw [hcs]; omega)), ?_⟩
      have hnI := hF i (by omega)
      repeat first | refine ⟨_, rfl, ?_⟩ | refine ⟨_, _, rfl, rfl, ?_⟩ | refine ⟨rfl, ?_⟩ | refine ⟨_, _, rfl, ?_⟩ | refine ⟨_, _, _, rfl, ?_⟩
      refine ⟨⟨by decide, by decide, by show (m - nsOf ns i).natAbs < 2 ^ 64; omega⟩, ?_⟩
      repeat first | refine ⟨_, rfl, ?_⟩ | refine ⟨_, _, rfl, rfl, ?_⟩ | refine ⟨rfl, ?_⟩ | refine ⟨_, _, rfl, ?_⟩ | refine ⟨_, _, _, rfl, ?_⟩
      refine ⟨L2_, fun bt hbt => ?_⟩
      obtain ⟨x0, hx0⟩ : ∃ x0 : Int × Nat, x0 = ((cs (nsOf ns) m i).getD i 0 + (m - nsOf ns i) ^ 2, i) := ⟨_, rfl⟩
      have n3 := Same.new (o := .tup [.int ((cs (nsOf ns) m i).getD i 0 + (m - nsOf ns i) ^ Int.toNat 2), .int (((i + 1 : Nat) : Int) - 1)]) hbt
      have eP1 := n3 _ _ eP
      have eB1 := n3 _ _ eB
      have sG1 := same_tr sG n3
      have eBt : upd G bt (.tup [.int ((cs (nsOf ns) m i).getD i 0 + (m - nsOf ns i) ^ Int.toNat 2), .int (((i + 1 : Nat) : Int) - 1)]) bt = some (.tup [.int x0.1, natV x0.2]) := by
        rw [upd_same, hx0, ei1]
        rfl
      generalize upd G bt (.tup [.int ((cs (nsOf ns) m i).getD i 0 + (m - nsOf ns i) ^ Int.toNat 2), .int (((i + 1 : Nat) : Int) - 1)]) = G1 at eP1 eB1 sG1 eBt ⊢
      have hp0 := hF.pos (e := i + 1) (by omega)
      repeat first | refine ⟨_, rfl, ?_⟩ | refine ⟨_, _, rfl, rfl, ?_⟩ | refine ⟨rfl, ?_⟩ | refine ⟨_, _, rfl, ?_⟩ | refine ⟨_, _, _, rfl, ?_⟩
      refine ⟨fun b σ' G' => ∃ (g : Int) (pd : List (Nat × Int)) (bt : Addr) (y8 : Option V), σ' = [some (.int m), some (.ref t), some (natV (i + 1)), some (.ref lp), some (.ref lb), some (.ref bt), some (.int (m - g + 1 + nsOf ns (b - 1))), some (.int ((b : Int) - 1)), y8] ∧ Same G1 G' ∧ G' bt = some (.tup [.int (bst x0 (rate (cs (nsOf ns) m i) pd)).1, natV (bst x0 (rate (cs (nsOf ns) m i) pd)).2]) ∧ pd ++ linesF (nsOf ns) b g = linesF (nsOf ns) (i + 1) (m + 1) ∧ b ≤ i + 1 ∧ g ≤ m + 1 ∧ (pd = [] → b = i + 1 ∧ g = m + 1),
        ⟨i + 1, m + 1, [], bt, y8, ?_, Same.refl _, eBt, rfl, Nat.le_refl _, Int.le_refl _, fun _ => ⟨rfl, rfl⟩⟩, ?_⟩
      · show [_, _, _, _, _, _, some (V.int (nsOf ns i)), some (V.int (((i + 1 : Nat) : Int) - 1)), _] = [_, _, _, _, _, _, some (V.int (m - (m + 1) + 1 + nsOf ns i)), some (V.int (((i + 1 : Nat) : Int) - 1)), _]
        rw [show m - (m + 1) + 1 + nsOf ns i = nsOf ns i by omega]
        rfl
      rintro b σ' G' ⟨g, pd, bt, y8, rfl, sm', eBt, hE, hb, hg1, hfst⟩
      have fin : linesF (nsOf ns) b g = [] → pd = linesF (nsOf ns) (i + 1) (m + 1) := fun z => by rw [z, List.append_nil] at hE; exact hE
      have done : pd = linesF (nsOf ns) (i + 1) (m + 1) → bst x0 (rate (cs (nsOf ns) m i) pd) = (least (rate (cs (nsOf ns) m i) (linesF (nsOf ns) (i + 1) (m + 1))), fB (nsOf ns) m (i + 1)) := fun e => by
        have hL1 : nsOf ns i < m + 1 := by omega
        have hne : rate (cs (nsOf ns) m i) (linesF (nsOf ns) (i + 1) (m + 1)) ≠ [] := fun z => linesF_ne hL1 (rate_nil.mp z)
        rw [e]
        exact if_neg hne
      repeat first | refine ⟨_, rfl, ?_⟩ | refine ⟨_, _, rfl, rfl, ?_⟩ | refine ⟨rfl, ?_⟩ | refine ⟨_, _, rfl, ?_⟩ | refine ⟨_, _, _, rfl, ?_⟩
      refine ite2 (fun h0 => ?_) (fun h0 => ?_)
      · have h0 : (0 : Int) ≤ (b : Int) - 1 := of_decide_eq_true h0
        match b, hE, hb, fin, h0, hfst with
        | b + 1, hE, hb, fin, h0, hfst =>
        have e1 : ((b + 1 : Nat) : Int) - 1 = (b : Int) := by omega
        have hnb := hF b (by omega)
        repeat first | refine ⟨_, rfl, ?_⟩ | refine ⟨_, _, rfl, rfl, ?_⟩ | refine ⟨rfl, ?_⟩ | refine ⟨_, _, rfl, ?_⟩ | refine ⟨_, _, _, rfl, ?_⟩
        refine ite2 (fun h1 => ?_) (fun h1 => ?_)
        · have h1 : m - g + 1 + nsOf ns b ≤ m := of_decide_eq_true h1
          have h2 : nsOf ns b < g := by omega
          refine ⟨fun σ' H2 => _, fun _ _ h => ⟨b, Nat.lt_succ_self b, h⟩, ?_⟩
          repeat first | refine ⟨_, rfl, ?_⟩ | refine ⟨_, _, rfl, rfl, ?_⟩ | refine ⟨rfl, ?_⟩ | refine ⟨_, _, rfl, ?_⟩ | refine ⟨_, _, _, rfl, ?_⟩
          refine ⟨lp, _, _, .int ((cs (nsOf ns) m i).getD b 0), rfl, rfl, SqL.of (sm' _ _ eP1), by
            show atI _ (((b + 1 : Nat) : Int) - 1) = _
            rw [e1]
            exact atI_nat (getD_at (by rw [hcs]; omega)), ?_⟩
          repeat first | refine ⟨_, rfl, ?_⟩ | refine ⟨_, _, rfl, rfl, ?_⟩ | refine ⟨rfl, ?_⟩ | refine ⟨_, _, rfl, ?_⟩ | refine ⟨_, _, _, rfl, ?_⟩
          refine ⟨⟨by decide, by decide, by show (m - (m - g + 1 + nsOf ns b)).natAbs < 2 ^ 64; omega⟩, ?_⟩
          have ev : m - (m - g + 1 + nsOf ns b) = g - (nsOf ns b + 1) := by omega
          have hE2 : (pd ++ [(b, g - (nsOf ns b + 1))]) ++ linesF (nsOf ns) b (g - (nsOf ns b + 1)) = linesF (nsOf ns) (i + 1) (m + 1) := by
            rw [← hE, List.append_assoc, linesF_yes h2]
            rfl
          have er : rate (cs (nsOf ns) m i) (pd ++ [(b, g - (nsOf ns b + 1))]) = rate (cs (nsOf ns) m i) pd ++ [((cs (nsOf ns) m i).getD b 0 + (g - (nsOf ns b + 1)) ^ 2, b)] := by
            unfold rate
            rw [List.map_append]
            rfl
          have hpush := bst_push (x0 := x0) (x := ((cs (nsOf ns) m i).getD b 0 + (g - (nsOf ns b + 1)) ^ 2, b)) (rs := rate (cs (nsOf ns) m i) pd) (fun z => by
            obtain ⟨z1, z2⟩ := hfst (rate_nil.mp z)
            have z1 : b = i := by omega
            subst z1
            rw [hx0, z2, show m + 1 - (nsOf ns b + 1) = m - nsOf ns b by omega])
          rw [← er] at hpush
          repeat first | refine ⟨_, rfl, ?_⟩ | refine ⟨_, _, rfl, rfl, ?_⟩ | refine ⟨rfl, ?_⟩ | refine ⟨_, _, rfl, ?_⟩ | refine ⟨_, _, _, rfl, ?_⟩
          refine ⟨bt, _, _, .int (bst x0 (rate (cs (nsOf ns) m i) pd)).1, rfl, rfl, SqT.of eBt, atI_nat (j := 0) rfl, ?_⟩
          repeat first | refine ⟨_, rfl, ?_⟩ | refine ⟨_, _, rfl, rfl, ?_⟩ | refine ⟨rfl, ?_⟩ | refine ⟨_, _, rfl, ?_⟩ | refine ⟨_, _, _, rfl, ?_⟩
          refine ite2 (fun h5 => ?_) (fun h5 => ?_)
          · have h5 : (cs (nsOf ns) m i).getD b 0 + (m - (m - g + 1 + nsOf ns b)) ^ 2 < (bst x0 (rate (cs (nsOf ns) m i) pd)).1 := of_decide_eq_true h5
            rw [ev] at h5
            rw [if_pos h5] at hpush
            repeat first | refine ⟨_, rfl, ?_⟩ | refine ⟨_, _, rfl, rfl, ?_⟩ | refine ⟨rfl, ?_⟩ | refine ⟨_, _, rfl, ?_⟩ | refine ⟨_, _, _, rfl, ?_⟩
            refine ⟨L2_, fun bt2 hbt2 => ?_⟩
            have n6 := Same.new (o := .tup [.int ((cs (nsOf ns) m i).getD b 0 + (m - (m - g + 1 + nsOf ns (b + 1 - 1))) ^ Int.toNat 2), .int (((b + 1 : Nat) : Int) - 1)]) hbt2
            have eB6 : upd G' bt2 (.tup [.int ((cs (nsOf ns) m i).getD b 0 + (m - (m - g + 1 + nsOf ns (b + 1 - 1))) ^ Int.toNat 2), .int (((b + 1 : Nat) : Int) - 1)]) bt2 = some (.tup [.int (bst x0 (rate (cs (nsOf ns) m i) (pd ++ [(b, g - (nsOf ns b + 1))]))).1, natV (bst x0 (rate (cs (nsOf ns) m i) (pd ++ [(b, g - (nsOf ns b + 1))]))).2]) := by
              rw [upd_same, hpush, e1, Nat.add_sub_cancel, ev]
              rfl
            repeat first | refine ⟨_, rfl, ?_⟩ | refine ⟨_, _, rfl, rfl, ?_⟩ | refine ⟨rfl, ?_⟩ | refine ⟨_, _, rfl, ?_⟩ | refine ⟨_, _, _, rfl, ?_⟩
            refine ⟨t, _, _, .int (nsOf ns (b - 1)), rfl, rfl, Same.tup (same_tr sG1 (same_tr sm' n6)) hT, ?_, ?_⟩
            · have ex : (if ((b + 1 : Nat) : Int) - 1 - 1 > 0 then ((b + 1 : Nat) : Int) - 1 - 1 else 0) = ((b - 1 : Nat) : Int) := by
                split <;> omega
              show atI _ (if ((b + 1 : Nat) : Int) - 1 - 1 > 0 then ((b + 1 : Nat) : Int) - 1 - 1 else 0) = _
              rw [ex]
              exact atI_nat (nsOf_at (by omega))
            repeat first | refine ⟨_, rfl, ?_⟩ | refine ⟨_, _, rfl, rfl, ?_⟩ | refine ⟨rfl, ?_⟩ | refine ⟨_, _, rfl, ?_⟩ | refine ⟨_, _, _, rfl, ?_⟩
            refine ⟨g - (nsOf ns b + 1), pd ++ [(b, g - (nsOf ns b + 1))], bt2, some (.int ((cs (nsOf ns) m i).getD b 0 + (m - (m - g + 1 + nsOf ns (b + 1 - 1))) ^ Int.toNat 2)), ?_, (same_tr sm' n6), eB6, hE2, by omega, by omega, fun z => absurd z (by simp)⟩
            show [_, _, _, _, _, _, some (V.int (m - g + 1 + nsOf ns (b + 1 - 1) + 1 + nsOf ns (b - 1))), some (V.int (((b + 1 : Nat) : Int) - 1 - 1)), _] = [_, _, _, _, _, _, some (V.int (m - (g - (nsOf ns b + 1)) + 1 + nsOf ns (b - 1))), some (V.int ((b : Int) - 1)), _]
            rw [show m - g + 1 + nsOf ns (b + 1 - 1) + 1 + nsOf ns (b - 1) = m - (g - (nsOf ns b + 1)) + 1 + nsOf ns (b - 1) by rw [Nat.add_sub_cancel]; omega, show ((b + 1 : Nat) : Int) - 1 - 1 = (b : Int) - 1 by omega]
          · have h5 : ¬ (cs (nsOf ns) m i).getD b 0 + (m - (m - g + 1 + nsOf ns b)) ^ 2 < (bst x0 (rate (cs (nsOf ns) m i) pd)).1 := of_decide_eq_false (Bool.eq_false_iff.mpr h5)
            rw [ev] at h5
            rw [if_neg h5] at hpush
            have eB6 : G' bt = some (.tup [.int (bst x0 (rate (cs (nsOf ns) m i) (pd ++ [(b, g - (nsOf ns b + 1))]))).1, natV (bst x0 (rate (cs (nsOf ns) m i) (pd ++ [(b, g - (nsOf ns b + 1))]))).2]) := by
              rw [hpush]
              exact eBt
            repeat first | refine ⟨_, rfl, ?_⟩ | refine ⟨_, _, rfl, rfl, ?_⟩ | refine ⟨rfl, ?_⟩ | refine ⟨_, _, rfl, ?_⟩ | refine ⟨_, _, _, rfl, ?_⟩
            refine ⟨t, _, _, .int (nsOf ns (b - 1)), rfl, rfl, Same.tup (same_tr sG1 sm') hT, ?_, ?_⟩
            · have ex : (if ((b + 1 : Nat) : Int) - 1 - 1 > 0 then ((b + 1 : Nat) : Int) - 1 - 1 else 0) = ((b - 1 : Nat) : Int) := by
                split <;> omega
              show atI _ (if ((b + 1 : Nat) : Int) - 1 - 1 > 0 then ((b + 1 : Nat) : Int) - 1 - 1 else 0) = _
              rw [ex]
              exact atI_nat (nsOf_at (by omega))
            repeat first | refine ⟨_, rfl, ?_⟩ | refine ⟨_, _, rfl, rfl, ?_⟩ | refine ⟨rfl, ?_⟩ | refine ⟨_, _, rfl, ?_⟩ | refine ⟨_, _, _, rfl, ?_⟩
            refine ⟨g - (nsOf ns b + 1), pd ++ [(b, g - (nsOf ns b + 1))], bt, some (.int ((cs (nsOf ns) m i).getD b 0 + (m - (m - g + 1 + nsOf ns (b + 1 - 1))) ^ Int.toNat 2)), ?_, sm', eB6, hE2, by omega, by omega, fun z => absurd z (by simp)⟩
            show [_, _, _, _, _, _, some (V.int (m - g + 1 + nsOf ns (b + 1 - 1) + 1 + nsOf ns (b - 1))), some (V.int (((b + 1 : Nat) : Int) - 1 - 1)), _] = [_, _, _, _, _, _, some (V.int (m - (g - (nsOf ns b + 1)) + 1 + nsOf ns (b - 1))), some (V.int ((b : Int) - 1)), _]
            rw [show m - g + 1 + nsOf ns (b + 1 - 1) + 1 + nsOf ns (b - 1) = m - (g - (nsOf ns b + 1)) + 1 + nsOf ns (b - 1) by rw [Nat.add_sub_cancel]; omega, show ((b + 1 : Nat) : Int) - 1 - 1 = (b : Int) - 1 by omega]
        · have h1 : ¬ m - g + 1 + nsOf ns b ≤ m := of_decide_eq_false (Bool.eq_false_iff.mpr h1)
          refine iteF (A := True) ?_
          have hpd := fin (linesF_no (by omega))
          have hb2 := done hpd
          repeat first | refine ⟨_, rfl, ?_⟩ | refine ⟨_, _, rfl, rfl, ?_⟩ | refine ⟨rfl, ?_⟩ | refine ⟨_, _, rfl, ?_⟩ | refine ⟨_, _, _, rfl, ?_⟩
          refine ⟨.inl ⟨rfl, _, SqL.of (sm' _ _ eP1)⟩, ?_⟩
          repeat first | refine ⟨_, rfl, ?_⟩ | refine ⟨_, _, rfl, rfl, ?_⟩ | refine ⟨rfl, ?_⟩ | refine ⟨_, _, rfl, ?_⟩ | refine ⟨_, _, _, rfl, ?_⟩
          refine ⟨bt, _, _, .int (bst x0 (rate (cs (nsOf ns) m i) pd)).1, rfl, rfl, SqT.of eBt, atI_nat (j := 0) rfl, ?_⟩
          repeat first | refine ⟨_, rfl, ?_⟩ | refine ⟨_, _, rfl, rfl, ?_⟩ | refine ⟨rfl, ?_⟩ | refine ⟨_, _, rfl, ?_⟩ | refine ⟨_, _, _, rfl, ?_⟩
          refine ⟨lp, _, _, rfl, rfl, sm' _ _ eP1, by rw [List.length_map, hcs, sizeLine_eq]; omega, ?_⟩
          have eB2 : upd G' lp (.lst ((cs (nsOf ns) m i).map V.int ++ [V.int (bst x0 (rate (cs (nsOf ns) m i) pd)).1])) lb = some (.lst ((bgs (nsOf ns) m i).map natV)) := by rw [upd_ne npb.symm]; exact sm' _ _ eB1
          have eBt2 : upd G' lp (.lst ((cs (nsOf ns) m i).map V.int ++ [V.int (bst x0 (rate (cs (nsOf ns) m i) pd)).1])) bt = some (.tup [.int (bst x0 (rate (cs (nsOf ns) m i) pd)).1, natV (bst x0 (rate (cs (nsOf ns) m i) pd)).2]) := tup_stay (sm' _ _ eP1) eBt
          repeat first | refine ⟨_, rfl, ?_⟩ | refine ⟨_, _, rfl, rfl, ?_⟩ | refine ⟨rfl, ?_⟩ | refine ⟨_, _, rfl, ?_⟩ | refine ⟨_, _, _, rfl, ?_⟩
          refine ⟨.inl ⟨rfl, _, SqL.of eB2⟩, ?_⟩
          repeat first | refine ⟨_, rfl, ?_⟩ | refine ⟨_, _, rfl, rfl, ?_⟩ | refine ⟨rfl, ?_⟩ | refine ⟨_, _, rfl, ?_⟩ | refine ⟨_, _, _, rfl, ?_⟩
          refine ⟨bt, _, _, natV (bst x0 (rate (cs (nsOf ns) m i) pd)).2, rfl, rfl, SqT.of eBt2, atI_nat (j := 1) rfl, ?_⟩
          repeat first | refine ⟨_, rfl, ?_⟩ | refine ⟨_, _, rfl, rfl, ?_⟩ | refine ⟨rfl, ?_⟩ | refine ⟨_, _, rfl, ?_⟩ | refine ⟨_, _, _, rfl, ?_⟩
          refine ⟨lb, _, _, rfl, rfl, eB2, by rw [List.length_map, bgs_len, sizeLine_eq]; omega, ?_⟩
          refine ⟨_, _, _, _, _, rfl, Same.set (Same.set (same_tr sG1 sm') hlp) hb0, ?_, ?_⟩
          · rw [upd_ne npb, upd_same, hb2]
            show _ = some (HO.lst ((cs (nsOf ns) m i ++ [least (rate (cs (nsOf ns) m i) (linesF (nsOf ns) (i + 1) (m + 1)))]).map V.int))
            rw [List.map_append]
            rfl
          · rw [upd_same, hb2]
            show _ = some (HO.lst ((bgs (nsOf ns) m i ++ [fB (nsOf ns) m (i + 1)]).map natV))
            rw [List.map_append]
            rfl
      · have h0 : ¬ (0 : Int) ≤ (b : Int) - 1 := of_decide_eq_false (Bool.eq_false_iff.mpr h0)
        have hb00 : b = 0 := by omega
        refine iteF ?_
        have hpd := fin (by rw [hb00]; rfl)
        have hb2 := done hpd
        repeat first | refine ⟨_, rfl, ?_⟩ | refine ⟨_, _, rfl, rfl, ?_⟩ | refine ⟨rfl, ?_⟩ | refine ⟨_, _, rfl, ?_⟩ | refine ⟨_, _, _, rfl, ?_⟩
        refine ⟨.inl ⟨rfl, _, SqL.of (sm' _ _ eP1)⟩, ?_⟩
        repeat first | refine ⟨_, rfl, ?_⟩ | refine ⟨_, _, rfl, rfl, ?_⟩ | refine ⟨rfl, ?_⟩ | refine ⟨_, _, rfl, ?_⟩ | refine ⟨_, _, _, rfl, ?_⟩
        refine ⟨bt, _, _, .int (bst x0 (rate (cs (nsOf ns) m i) pd)).1, rfl, rfl, SqT.of eBt, atI_nat (j := 0) rfl, ?_⟩
        repeat first | refine ⟨_, rfl, ?_⟩ | refine ⟨_, _, rfl, rfl, ?_⟩ | refine ⟨rfl, ?_⟩ | refine ⟨_, _, rfl, ?_⟩ | refine ⟨_, _, _, rfl, ?_⟩
        refine ⟨lp, _, _, rfl, rfl, sm' _ _ eP1, by rw [List.length_map, hcs, sizeLine_eq]; omega, ?_⟩
        have eB2 : upd G' lp (.lst ((cs (nsOf ns) m i).map V.int ++ [V.int (bst x0 (rate (cs (nsOf ns) m i) pd)).1])) lb = some (.lst ((bgs (nsOf ns) m i).map natV)) := by rw [upd_ne npb.symm]; exact sm' _ _ eB1
        have eBt2 : upd G' lp (.lst ((cs (nsOf ns) m i).map V.int ++ [V.int (bst x0 (rate (cs (nsOf ns) m i) pd)).1])) bt = some (.tup [.int (bst x0 (rate (cs (nsOf ns) m i) pd)).1, natV (bst x0 (rate (cs (nsOf ns) m i) pd)).2]) := tup_stay (sm' _ _ eP1) eBt
        repeat first | refine ⟨_, rfl, ?_⟩ | refine ⟨_, _, rfl, rfl, ?_⟩ | refine ⟨rfl, ?_⟩ | refine ⟨_, _, rfl, ?_⟩ | refine ⟨_, _, _, rfl, ?_⟩
        refine ⟨.inl ⟨rfl, _, SqL.of eB2⟩, ?_⟩
        repeat first | refine ⟨_, rfl, ?_⟩ | refine ⟨_, _, rfl, rfl, ?_⟩ | refine ⟨rfl, ?_⟩ | refine ⟨_, _, rfl, ?_⟩ | refine ⟨_, _, _, rfl, ?_⟩
        refine ⟨bt, _, _, natV (bst x0 (rate (cs (nsOf ns) m i) pd)).2, rfl, rfl, SqT.of eBt2, atI_nat (j := 1) rfl, ?_⟩
        repeat first | refine ⟨_, rfl, ?_⟩ | refine ⟨_, _, rfl, rfl, ?_⟩ | refine ⟨rfl, ?_⟩ | refine ⟨_, _, rfl, ?_⟩ | refine ⟨_, _, _, rfl, ?_⟩
        refine ⟨lb, _, _, rfl, rfl, eB2, by rw [List.length_map, bgs_len, sizeLine_eq]; omega, ?_⟩
        refine ⟨_, _, _, _, _, rfl, Same.set (Same.set (same_tr sG1 sm') hlp) hb0, ?_, ?_⟩
        · rw [upd_ne npb, upd_same, hb2]
          show _ = some (HO.lst ((cs (nsOf ns) m i ++ [least (rate (cs (nsOf ns) m i) (linesF (nsOf ns) (i + 1) (m + 1)))]).map V.int))
          rw [List.map_append]
          rfl
        · rw [upd_same, hb2]
          show _ = some (HO.lst ((bgs (nsOf ns) m i ++ [fB (nsOf ns) m (i + 1)]).map natV))
          rw [List.map_append]
          rfl
    · rintro σ G ⟨y2, y5, y6, y7, y8, rfl, sG, eP, eB⟩
      refine ⟨_, rfl, _, rfl, L2_, fun r hr0 => ?_⟩
      have n5 := Same.new (o := .tup [.ref lp, .ref lb]) hr0
      exact q _ r lp lb (same_tr sG n5) upd_same (n5 _ _ eP) (n5 _ _ eB)
end
section
variable {P : Program} {w : World} {K : PySem.W.Frag} {mg : Str → Option Value} {base : Heap}
theorem ok_ends3 (S : Stands K mg "_law_ends" s__law_ends) (B : Blt mg) (D__law_solved : Def P w K mg base CX0 1 "_law_solved" s__law_solved ["_law_width", "_law_text_here"] (spTab2 K)) :
    Def P w K mg base CX0 2 "_law_ends" s__law_ends ["_law_width", "_law_text_here"] (spEnds2 K) := by
  obtain ⟨f, fd, F, hm⟩ := S
  refine ⟨f, fd, F, hm, okG0 F sc__law_ends (fun vs H Q E h => ?_) (fun cdv A outer s H vs Q E hg hr h => ?_)⟩
  · obtain ⟨m, t, ns, rfl, _⟩ := h
    rfl
  · obtain ⟨m, t, ns, rfl, hT, hF, m0, m1, hn, q⟩ := h
    have hu := hr.units
    refine ⟨_, (pss_cons (ps_if (pt_cmpR (op_eqD hu) (pv 1) (pe_tup pa_nil) (nomark _)) (pss_one (ps_ret (pe_tup pa_nil))) pss_nil)
      (pss_cons (ps_asg (pe_callG D__law_solved hg (hr.mono (by decide)) (by rfl) pass0 (fun _ _ _ _ _ _ us hl => match us, hl with | [_, _], _ => rfl) (pa_cons (pv 0) (pa_cons (pv 1) pa_nil))) (pg_tup rfl (pgs_cons (pg_name (i := 2) sc__law_ends.nd rfl (Or.inl rfl)) (pgs_cons (pg_name (i := 3) sc__law_ends.nd rfl (Or.inl rfl)) pgs_nil))))
      (pss_cons (ps_par3 (i := 4) (j := 5) (l := 6) (by rfl) sc__law_ends.nd rfl rfl rfl (by decide) (by decide) (by decide) rfl rfl rfl (pa_cons (pe_ix ix_tup (pv 1) (pe_un un_neg pe_int) (fun _ _ => rfl)) (pa_cons (pe_op op_sub (pe_callB call_len_seq (by rfl) B.len PySem.boot_len (pa_cons (pv 1) pa_nil)) pe_int) (pa_cons (pe_op op_sub (pe_callB call_len_seq (by rfl) B.len PySem.boot_len (pa_cons (pv 1) pa_nil)) pe_int) pa_nil))) (by rfl))
      (pss_cons (ps_while PassesOwn.never (PW.pt (pw_and (pt_cmpR op_ge (pv 5) pe_int (nomark _)) (pw_and1 (pt_cmpR op_le (pv 4) (pv 0) (nomark _))))) (pss_cons (ps_if (pt_cmpR op_lt (pe_ix ix_list (pv 2) (pv 5) (fun _ _ => rfl)) (pe_ix ix_list (pv 2) (pv 6) (fun _ _ => rfl)) (nomark _)) (pss_one (ps_set (i := 6) sc__law_ends.nd rfl (Or.inl rfl) (pv 5))) pss_nil)
      (pss_cons (ps_set (i := 5) sc__law_ends.nd rfl (Or.inl rfl) (pe_op op_sub (pv 5) pe_int))
      (pss_one (ps_set (i := 4) sc__law_ends.nd rfl (Or.inl rfl) (pe_op op_add (pe_op op_add (pv 4) pe_int) (pe_ix ix_tup (pv 1) (pe_callB (call_max2 rfl) (by rfl) B.max PyProof.Rows.boot_max (pa_cons pe_int (pa_cons (pv 5) pa_nil))) (fun _ _ => rfl))))))))
      (pss_cons (ps_par (i := 7) (j := 8) (by rfl) sc__law_ends.nd rfl rfl (by decide) rfl rfl (pa_cons (pe_lst (pa_cons (pe_callB call_len_seq (by rfl) B.len PySem.boot_len (pa_cons (pv 1) pa_nil)) pa_nil)) (pa_cons (pv 6) pa_nil)) (by rfl))
      (pss_cons (ps_while PassesOwn.never (pt_cmpR op_gt (pv 8) pe_int (nomark _)) (pss_cons (ps_expr (pe_bm PySem.F.plainAttrs_list PySem.F.slot_list_append PySem.F.type_list_append mt_append (pv 7) (pa_cons (pv 8) pa_nil)))
      (pss_one (ps_set (i := 8) sc__law_ends.nd rfl (Or.inl rfl) (pe_ix ix_list (pv 3) (pv 8) (fun _ _ => rfl))))))
      (pss_one (ps_ret (pe_callTy call_tuple_of (by rfl) B.tuple PyProof.Rows.boot_tuple (pa_cons (pe_revL (pv 7)) pa_nil)))))))))), ?_⟩
    have L1 : 1 ≤ sizeLine := by decide
    have hcl : (ns.map V.int).length = ns.length := List.length_map ..
    have hcs : ∀ k, (cs (nsOf ns) m k).length = k + 1 := fun k => cs_len k
    repeat first | refine ⟨_, rfl, ?_⟩ | refine ⟨_, _, rfl, rfl, ?_⟩ | refine ⟨rfl, ?_⟩ | refine ⟨_, _, rfl, ?_⟩ | refine ⟨_, _, _, rfl, ?_⟩
    refine ⟨Nat.zero_le _, fun e0 he0 => ?_⟩
    have n0 := Same.new (o := .tup []) he0
    refine ⟨_, .tuple [], .tup (Same.tup n0 hT) (dp_ints ns), .tup (.of upd_same) .nil, shaped_row _, rfl, ?_⟩
    rw [eqv_rnil]
    repeat first | refine ⟨_, rfl, ?_⟩ | refine ⟨_, _, rfl, rfl, ?_⟩ | refine ⟨rfl, ?_⟩ | refine ⟨_, _, rfl, ?_⟩ | refine ⟨_, _, _, rfl, ?_⟩
    generalize upd H e0 (.tup []) = G0 at n0 ⊢
    refine ite2 (fun he => ?_) (fun he => ?_)
    · have he : ns = [] := of_decide_eq_true he
      refine ⟨Nat.zero_le _, fun r hr0 => q _ r (same_tr n0 (Same.new hr0)) ?_⟩
      rw [he]
      exact .of upd_same
    · have he : ns ≠ [] := of_decide_eq_false (Bool.eq_false_iff.mpr he)
      have h0 : 0 < ns.length := List.length_pos_iff.mpr he
      obtain ⟨d, hd⟩ : ∃ d, ns.length = d + 1 := ⟨ns.length - 1, by omega⟩
      repeat first | refine ⟨_, rfl, ?_⟩ | refine ⟨_, _, rfl, rfl, ?_⟩ | refine ⟨rfl, ?_⟩ | refine ⟨_, _, rfl, ?_⟩ | refine ⟨_, _, _, rfl, ?_⟩
      refine ⟨m, t, ns, rfl, Same.tup n0 hT, hF, m0, m1, hn, fun H1 r1 lp lb s1 er eP eB => ?_⟩
      refine ⟨r1, _, rfl, SqT.of er, rfl, _, _, rfl, _, _, rfl, rfl, ?_⟩
      have z1 := same_tr n0 s1
      repeat first | refine ⟨_, rfl, ?_⟩ | refine ⟨_, _, rfl, rfl, ?_⟩ | refine ⟨rfl, ?_⟩ | refine ⟨_, _, rfl, ?_⟩ | refine ⟨_, _, _, rfl, ?_⟩
      refine ⟨t, _, _, .int (nsOf ns d), rfl, rfl, Same.tup z1 hT, atI_end (n := d) (by rw [hcl, hd]) (nsOf_at (by omega)), ?_⟩
      repeat first | refine ⟨_, rfl, ?_⟩ | refine ⟨_, _, rfl, rfl, ?_⟩ | refine ⟨rfl, ?_⟩ | refine ⟨_, _, rfl, ?_⟩ | refine ⟨_, _, _, rfl, ?_⟩
      refine ⟨t, _, rfl, .inr (Same.tup z1 hT), ?_⟩
      rw [hcl]
      repeat first | refine ⟨_, rfl, ?_⟩ | refine ⟨_, _, rfl, rfl, ?_⟩ | refine ⟨rfl, ?_⟩ | refine ⟨_, _, rfl, ?_⟩ | refine ⟨_, _, _, rfl, ?_⟩
      refine ⟨t, _, rfl, .inr (Same.tup z1 hT), ?_⟩
      rw [hcl]
      repeat first | refine ⟨_, rfl, ?_⟩ | refine ⟨_, _, rfl, rfl, ?_⟩ | refine ⟨rfl, ?_⟩ | refine ⟨_, _, rfl, ?_⟩ | refine ⟨_, _, _, rfl, ?_⟩
      obtain ⟨x0, hx0⟩ : ∃ x0 : Int × Nat, x0 = ((cs (nsOf ns) m ns.length).getD d 0, d) := ⟨_, rfl⟩
      have hT1 := Same.tup z1 hT
      have hnD := hF d (by omega)
      have ed1 : ((ns.length : Nat) : Int) - 1 = (d : Int) := by omega
      refine ⟨fun b σ' G' => ∃ (g : Int) (pd : List (Nat × Int)), σ' = [some (.int m), some (.ref t), some (.ref lp), some (.ref lb), some (.int (m - g + 1 + nsOf ns (b - 1))), some (.int ((b : Int) - 1)), some (natV (bst x0 (rate0 (cs (nsOf ns) m ns.length) pd)).2), none, none] ∧ G' = H1 ∧ pd ++ linesF (nsOf ns) b g = linesF (nsOf ns) ns.length (m + 1) ∧ b ≤ ns.length ∧ g ≤ m + 1 ∧ (pd = [] → b = ns.length ∧ g = m + 1) ∧ ((cs (nsOf ns) m ns.length).getD (bst x0 (rate0 (cs (nsOf ns) m ns.length) pd)).2 0 = (bst x0 (rate0 (cs (nsOf ns) m ns.length) pd)).1 ∧ (bst x0 (rate0 (cs (nsOf ns) m ns.length) pd)).2 < ns.length),
        ⟨ns.length, m + 1, [], ?_, rfl, rfl, Nat.le_refl _, Int.le_refl _, fun _ => ⟨rfl, rfl⟩, ?_⟩, ?_⟩
      · rw [hx0]
        show [_, _, _, _, some (V.int (nsOf ns d)), some (V.int ((ns.length : Int) - 1)), some (V.int ((ns.length : Int) - 1)), _, _] = [_, _, _, _, some (V.int (m - (m + 1) + 1 + nsOf ns (ns.length - 1))), some (V.int ((ns.length : Int) - 1)), some (natV d), _, _]
        rw [show m - (m + 1) + 1 + nsOf ns (ns.length - 1) = nsOf ns d by rw [hd, Nat.add_sub_cancel]; omega, ed1]
        rfl
      · rw [hx0]
        exact ⟨rfl, by show d < _; omega⟩
      rintro b σ' G' ⟨g, pd, rfl, rfl, hE, hb, hg1, hfst, hbst⟩
      have fin : linesF (nsOf ns) b g = [] → pd = linesF (nsOf ns) ns.length (m + 1) := fun z => by rw [z, List.append_nil] at hE; exact hE
      have done : pd = linesF (nsOf ns) ns.length (m + 1) → (bst x0 (rate0 (cs (nsOf ns) m ns.length) pd)).2 = lB ns m := fun e => by
        have hL1 : nsOf ns d < m + 1 := by omega
        have hne : rate0 (cs (nsOf ns) m ns.length) (linesF (nsOf ns) ns.length (m + 1)) ≠ [] := fun z => by
          have := rate0_nil.mp z
          rw [hd] at this
          exact linesF_ne hL1 this
        rw [e]
        unfold bst
        rw [if_neg hne]
        rfl
      repeat first | refine ⟨_, rfl, ?_⟩ | refine ⟨_, _, rfl, rfl, ?_⟩ | refine ⟨rfl, ?_⟩ | refine ⟨_, _, rfl, ?_⟩ | refine ⟨_, _, _, rfl, ?_⟩
      refine ite2 (fun h0 => ?_) (fun h0 => ?_)
      · have h0 : (0 : Int) ≤ (b : Int) - 1 := of_decide_eq_true h0
        match b, hE, hb, fin, h0, hfst with
        | b + 1, hE, hb, fin, h0, hfst =>
        have e1 : ((b + 1 : Nat) : Int) - 1 = (b : Int) := by omega
        have hnb := hF b (by omega)
        repeat first | refine ⟨_, rfl, ?_⟩ | refine ⟨_, _, rfl, rfl, ?_⟩ | refine ⟨rfl, ?_⟩ | refine ⟨_, _, rfl, ?_⟩ | refine ⟨_, _, _, rfl, ?_⟩
        refine ite2 (fun h1 => ?_) (fun h1 => ?_)
        · have h1 : m - g + 1 + nsOf ns b ≤ m := of_decide_eq_true h1
          have h2 : nsOf ns b < g := by omega
          refine ⟨fun σ' H2 => _, fun _ _ h => ⟨b, Nat.lt_succ_self b, h⟩, ?_⟩
          repeat first | refine ⟨_, rfl, ?_⟩ | refine ⟨_, _, rfl, rfl, ?_⟩ | refine ⟨rfl, ?_⟩ | refine ⟨_, _, rfl, ?_⟩ | refine ⟨_, _, _, rfl, ?_⟩
          refine ⟨lp, _, _, .int ((cs (nsOf ns) m ns.length).getD b 0), rfl, rfl, SqL.of eP, by
            show atI _ (((b + 1 : Nat) : Int) - 1) = _
            rw [e1]
            exact atI_nat (getD_at (by rw [hcs]; omega)), ?_⟩
          repeat first | refine ⟨_, rfl, ?_⟩ | refine ⟨_, _, rfl, rfl, ?_⟩ | refine ⟨rfl, ?_⟩ | refine ⟨_, _, rfl, ?_⟩ | refine ⟨_, _, _, rfl, ?_⟩
          refine ⟨lp, _, _, .int ((cs (nsOf ns) m ns.length).getD (bst x0 (rate0 (cs (nsOf ns) m ns.length) pd)).2 0), rfl, rfl, SqL.of eP, atI_nat (getD_at (by rw [hcs]; omega)), ?_⟩
          rw [hbst.1]
          have hE2 : (pd ++ [(b, g - (nsOf ns b + 1))]) ++ linesF (nsOf ns) b (g - (nsOf ns b + 1)) = linesF (nsOf ns) ns.length (m + 1) := by
            rw [← hE, List.append_assoc, linesF_yes h2]
            rfl
          have er : rate0 (cs (nsOf ns) m ns.length) (pd ++ [(b, g - (nsOf ns b + 1))]) = rate0 (cs (nsOf ns) m ns.length) pd ++ [((cs (nsOf ns) m ns.length).getD b 0, b)] := by
            unfold rate0
            rw [List.map_append]
            rfl
          have hpush := bst_push (x0 := x0) (x := ((cs (nsOf ns) m ns.length).getD b 0, b)) (rs := rate0 (cs (nsOf ns) m ns.length) pd) (fun z => by
            obtain ⟨z1, z2⟩ := hfst (rate0_nil.mp z)
            have z1 : b = d := by omega
            rw [hx0, z1])
          rw [← er] at hpush
          repeat first | refine ⟨_, rfl, ?_⟩ | refine ⟨_, _, rfl, rfl, ?_⟩ | refine ⟨rfl, ?_⟩ | refine ⟨_, _, rfl, ?_⟩ | refine ⟨_, _, _, rfl, ?_⟩
          refine ite2 (fun h5 => ?_) (fun h5 => ?_)
          · have h5 : (cs (nsOf ns) m ns.length).getD b 0 < (bst x0 (rate0 (cs (nsOf ns) m ns.length) pd)).1 := of_decide_eq_true h5
            rw [if_pos h5] at hpush
            repeat first | refine ⟨_, rfl, ?_⟩ | refine ⟨_, _, rfl, rfl, ?_⟩ | refine ⟨rfl, ?_⟩ | refine ⟨_, _, rfl, ?_⟩ | refine ⟨_, _, _, rfl, ?_⟩
            refine ⟨t, _, _, .int (nsOf ns (b - 1)), rfl, rfl, hT1, ?_, ?_⟩
            · have ex : (if ((b + 1 : Nat) : Int) - 1 - 1 > 0 then ((b + 1 : Nat) : Int) - 1 - 1 else 0) = ((b - 1 : Nat) : Int) := by
                split <;> omega
              show atI _ (if ((b + 1 : Nat) : Int) - 1 - 1 > 0 then ((b + 1 : Nat) : Int) - 1 - 1 else 0) = _
              rw [ex]
              exact atI_nat (nsOf_at (by omega))
            repeat first | refine ⟨_, rfl, ?_⟩ | refine ⟨_, _, rfl, rfl, ?_⟩ | refine ⟨rfl, ?_⟩ | refine ⟨_, _, rfl, ?_⟩ | refine ⟨_, _, _, rfl, ?_⟩
            refine ⟨g - (nsOf ns b + 1), pd ++ [(b, g - (nsOf ns b + 1))], ?_, rfl, hE2, by omega, by omega, fun z => absurd z (by simp), ?_⟩
            · rw [hpush]
              show [_, _, _, _, some (V.int (m - g + 1 + nsOf ns (b + 1 - 1) + 1 + nsOf ns (b - 1))), some (V.int (((b + 1 : Nat) : Int) - 1 - 1)), some (V.int (((b + 1 : Nat) : Int) - 1)), _, _] = [_, _, _, _, some (V.int (m - (g - (nsOf ns b + 1)) + 1 + nsOf ns (b - 1))), some (V.int ((b : Int) - 1)), _, _, _]
              rw [show m - g + 1 + nsOf ns (b + 1 - 1) + 1 + nsOf ns (b - 1) = m - (g - (nsOf ns b + 1)) + 1 + nsOf ns (b - 1) by rw [Nat.add_sub_cancel]; omega, show ((b + 1 : Nat) : Int) - 1 - 1 = (b : Int) - 1 by omega]
              rw [e1]
              rfl
            · rw [hpush]
              exact ⟨rfl, by show b < _; omega⟩
          · have h5 : ¬ (cs (nsOf ns) m ns.length).getD b 0 < (bst x0 (rate0 (cs (nsOf ns) m ns.length) pd)).1 := of_decide_eq_false (Bool.eq_false_iff.mpr h5)
            rw [if_neg h5] at hpush
            repeat first | refine ⟨_, rfl, ?_⟩ | refine ⟨_, _, rfl, rfl, ?_⟩ | refine ⟨rfl, ?_⟩ | refine ⟨_, _, rfl, ?_⟩ | refine ⟨_, _, _, rfl, ?_⟩
            refine ⟨t, _, _, .int (nsOf ns (b - 1)), rfl, rfl, hT1, ?_, ?_⟩
            · have ex : (if ((b + 1 : Nat) : Int) - 1 - 1 > 0 then ((b + 1 : Nat) : Int) - 1 - 1 else 0) = ((b - 1 : Nat) : Int) := by
                split <;> omega
              show atI _ (if ((b + 1 : Nat) : Int) - 1 - 1 > 0 then ((b + 1 : Nat) : Int) - 1 - 1 else 0) = _
              rw [ex]
              exact atI_nat (nsOf_at (by omega))
            repeat first | refine ⟨_, rfl, ?_⟩ | refine ⟨_, _, rfl, rfl, ?_⟩ | refine ⟨rfl, ?_⟩ | refine ⟨_, _, rfl, ?_⟩ | refine ⟨_, _, _, rfl, ?_⟩
            refine ⟨g - (nsOf ns b + 1), pd ++ [(b, g - (nsOf ns b + 1))], ?_, rfl, hE2, by omega, by omega, fun z => absurd z (by simp), ?_⟩
            · rw [hpush]
              show [_, _, _, _, some (V.int (m - g + 1 + nsOf ns (b + 1 - 1) + 1 + nsOf ns (b - 1))), some (V.int (((b + 1 : Nat) : Int) - 1 - 1)), some (natV (bst x0 (rate0 (cs (nsOf ns) m ns.length) pd)).2), _, _] = [_, _, _, _, some (V.int (m - (g - (nsOf ns b + 1)) + 1 + nsOf ns (b - 1))), some (V.int ((b : Int) - 1)), _, _, _]
              rw [show m - g + 1 + nsOf ns (b + 1 - 1) + 1 + nsOf ns (b - 1) = m - (g - (nsOf ns b + 1)) + 1 + nsOf ns (b - 1) by rw [Nat.add_sub_cancel]; omega, show ((b + 1 : Nat) : Int) - 1 - 1 = (b : Int) - 1 by omega]
            · rw [hpush]
              exact hbst
        · have h1 : ¬ m - g + 1 + nsOf ns b ≤ m := of_decide_eq_false (Bool.eq_false_iff.mpr h1)
          refine iteF (A := True) ?_
          have hbe := done (fin (linesF_no (by omega)))
          repeat first | refine ⟨_, rfl, ?_⟩ | refine ⟨_, _, rfl, rfl, ?_⟩ | refine ⟨rfl, ?_⟩ | refine ⟨_, _, rfl, ?_⟩ | refine ⟨_, _, _, rfl, ?_⟩
          refine ⟨t, _, rfl, .inr hT1, L1, fun fl hfl => ?_⟩
          rw [hcl]
          have n5 := Same.new (o := .lst [.int (ns.length : Int)]) hfl
          have eF := upd_same (H := G') (a := fl) (o := .lst [.int (ns.length : Int)])
          have eB5 := n5 _ _ eB
          have nbf : lb ≠ fl := ne_of_none eB hfl
          have z5 := same_tr z1 n5
          have hfl0 : H fl = none := same_free z1 hfl
          generalize upd G' fl (.lst [.int (ns.length : Int)]) = G5 at eF eB5 z5 ⊢
          repeat first | refine ⟨_, rfl, ?_⟩ | refine ⟨_, _, rfl, rfl, ?_⟩ | refine ⟨rfl, ?_⟩ | refine ⟨_, _, rfl, ?_⟩ | refine ⟨_, _, _, rfl, ?_⟩
          have hf := bgs_facts hF
          have hlB : lB ns m < ns.length := by
            rw [← hbe]
            exact hbst.2
          refine ⟨fun k σ G => ∃ (acc : List Nat), σ = [some (.int m), some (.ref t), some (.ref lp), some (.ref lb), some (.int (m - g + 1 + nsOf ns (b + 1 - 1))), some (.int (((b + 1 : Nat) : Int) - 1)), some (natV (bst x0 (rate0 (cs (nsOf ns) m ns.length) pd)).2), some (.ref fl), some (natV k)] ∧ Same H G ∧ G lb = some (.lst ((bgs (nsOf ns) m ns.length).map natV)) ∧ G fl = some (.lst ((ns.length :: acc).map natV)) ∧ k ≤ lB ns m ∧ acc.length + k ≤ lB ns m ∧ ∀ es, Pth (fB (nsOf ns) m) k es → Pth (fB (nsOf ns) m) (lB ns m) (es ++ acc.reverse),
            ⟨lB ns m, [], by rw [← hbe]; rfl, z5, eB5, eF, Nat.le_refl _, by simp, fun es h => by simpa using h⟩, ?_⟩
          rintro k σ G ⟨acc, rfl, sm, eBk, eFk, hk, hac, hP⟩
          repeat first | refine ⟨_, rfl, ?_⟩ | refine ⟨_, _, rfl, rfl, ?_⟩ | refine ⟨rfl, ?_⟩ | refine ⟨_, _, rfl, ?_⟩ | refine ⟨_, _, _, rfl, ?_⟩
          refine ite2 (fun h0 => ?_) (fun h0 => ?_)
          · have h0 : (0 : Int) < (k : Int) := of_decide_eq_true h0
            obtain ⟨e1, e2⟩ := hf k (by omega) (by omega)
            refine ⟨fun σ' H2 => _, fun _ _ h => ⟨fB (nsOf ns) m k, e2, h⟩, ?_⟩
            have hlt : ((ns.length :: acc).map natV).length < sizeLine := by
              rw [List.length_map, sizeLine_eq]
              show acc.length + 1 < _
              omega
            repeat first | refine ⟨_, rfl, ?_⟩ | refine ⟨_, _, rfl, rfl, ?_⟩ | refine ⟨rfl, ?_⟩ | refine ⟨_, _, rfl, ?_⟩ | refine ⟨_, _, _, rfl, ?_⟩
            refine ⟨.inl ⟨rfl, _, SqL.of eFk⟩, ?_⟩
            repeat first | refine ⟨_, rfl, ?_⟩ | refine ⟨_, _, rfl, rfl, ?_⟩ | refine ⟨rfl, ?_⟩ | refine ⟨_, _, rfl, ?_⟩ | refine ⟨_, _, _, rfl, ?_⟩
            refine ⟨fl, _, _, rfl, rfl, eFk, hlt, ?_⟩
            have eB6 : upd G fl (.lst ((ns.length :: acc).map natV ++ [natV k])) lb = some (.lst ((bgs (nsOf ns) m ns.length).map natV)) := by rw [upd_ne nbf]; exact eBk
            repeat first | refine ⟨_, rfl, ?_⟩ | refine ⟨_, _, rfl, rfl, ?_⟩ | refine ⟨rfl, ?_⟩ | refine ⟨_, _, rfl, ?_⟩ | refine ⟨_, _, _, rfl, ?_⟩
            refine ⟨lb, _, _, natV (fB (nsOf ns) m k), rfl, rfl, SqL.of eB6, atI_nat (by rw [List.getElem?_map, e1]; rfl), ?_⟩
            refine ⟨acc ++ [k], rfl, Same.set sm hfl0, eB6, by rw [upd_same, ← List.cons_append, List.map_append]; rfl, by omega, ?_, fun es h => ?_⟩
            · rw [List.length_append]
              show acc.length + 1 + fB (nsOf ns) m k ≤ _
              omega
            · have h2 := hP (es ++ [k]) (.s (by omega) h)
              rw [List.reverse_append]
              simpa using h2
          · have h0 : ¬ (0 : Int) < (k : Int) := of_decide_eq_false (Bool.eq_false_iff.mpr h0)
            obtain rfl : k = 0 := by omega
            have hPE := hP [] .z
            repeat first | refine ⟨_, rfl, ?_⟩ | refine ⟨_, _, rfl, rfl, ?_⟩ | refine ⟨rfl, ?_⟩ | refine ⟨_, _, rfl, ?_⟩ | refine ⟨_, _, _, rfl, ?_⟩
            refine ⟨fl, _, rfl, SqL.of eFk, fun r hr0 => ⟨r, _, rfl, .inl ⟨SqL.of upd_same, fun t2 ht2 => ?_⟩⟩⟩
            refine q _ t2 (same_more (same_more sm hr0) ht2) ?_
            unfold blay
            rw [if_neg he, ← pathOf_uni hF (Nat.le_of_lt hlB) hPE, List.nil_append, ← List.reverse_cons, List.map_reverse]
            exact .of upd_same
      · have h0 : ¬ (0 : Int) ≤ (b : Int) - 1 := of_decide_eq_false (Bool.eq_false_iff.mpr h0)
        have hb00 : b = 0 := by omega
        refine iteF ?_
        have hbe := done (fin (by rw [hb00]; rfl))
        repeat first | refine ⟨_, rfl, ?_⟩ | refine ⟨_, _, rfl, rfl, ?_⟩ | refine ⟨rfl, ?_⟩ | refine ⟨_, _, rfl, ?_⟩ | refine ⟨_, _, _, rfl, ?_⟩
        refine ⟨t, _, rfl, .inr hT1, L1, fun fl hfl => ?_⟩
        rw [hcl]
        have n5 := Same.new (o := .lst [.int (ns.length : Int)]) hfl
        have eF := upd_same (H := G') (a := fl) (o := .lst [.int (ns.length : Int)])
        have eB5 := n5 _ _ eB
        have nbf : lb ≠ fl := ne_of_none eB hfl
        have z5 := same_tr z1 n5
        have hfl0 : H fl = none := same_free z1 hfl
        generalize upd G' fl (.lst [.int (ns.length : Int)]) = G5 at eF eB5 z5 ⊢
        repeat first | refine ⟨_, rfl, ?_⟩ | refine ⟨_, _, rfl, rfl, ?_⟩ | refine ⟨rfl, ?_⟩ | refine ⟨_, _, rfl, ?_⟩ | refine ⟨_, _, _, rfl, ?_⟩
        have hf := bgs_facts hF
        have hlB : lB ns m < ns.length := by
          rw [← hbe]
          exact hbst.2
        refine ⟨fun k σ G => ∃ (acc : List Nat), σ = [some (.int m), some (.ref t), some (.ref lp), some (.ref lb), some (.int (m - g + 1 + nsOf ns (b - 1))), some (.int ((b : Int) - 1)), some (natV (bst x0 (rate0 (cs (nsOf ns) m ns.length) pd)).2), some (.ref fl), some (natV k)] ∧ Same H G ∧ G lb = some (.lst ((bgs (nsOf ns) m ns.length).map natV)) ∧ G fl = some (.lst ((ns.length :: acc).map natV)) ∧ k ≤ lB ns m ∧ acc.length + k ≤ lB ns m ∧ ∀ es, Pth (fB (nsOf ns) m) k es → Pth (fB (nsOf ns) m) (lB ns m) (es ++ acc.reverse),
          ⟨lB ns m, [], by rw [← hbe]; rfl, z5, eB5, eF, Nat.le_refl _, by simp, fun es h => by simpa using h⟩, ?_⟩
        rintro k σ G ⟨acc, rfl, sm, eBk, eFk, hk, hac, hP⟩
        repeat first | refine ⟨_, rfl, ?_⟩ | refine ⟨_, _, rfl, rfl, ?_⟩ | refine ⟨rfl, ?_⟩ | refine ⟨_, _, rfl, ?_⟩ | refine ⟨_, _, _, rfl, ?_⟩
        refine ite2 (fun h0 => ?_) (fun h0 => ?_)
        · have h0 : (0 : Int) < (k : Int) := of_decide_eq_true h0
          obtain ⟨e1, e2⟩ := hf k (by omega) (by omega)
          refine ⟨fun σ' H2 => _, fun _ _ h => ⟨fB (nsOf ns) m k, e2, h⟩, ?_⟩
          have hlt : ((ns.length :: acc).map natV).length < sizeLine := by
            rw [List.length_map, sizeLine_eq]
            show acc.length + 1 < _
            omega
          repeat first | refine ⟨_, rfl, ?_⟩ | refine ⟨_, _, rfl, rfl, ?_⟩ | refine ⟨rfl, ?_⟩ | refine ⟨_, _, rfl, ?_⟩ | refine ⟨_, _, _, rfl, ?_⟩
          refine ⟨.inl ⟨rfl, _, SqL.of eFk⟩, ?_⟩
          repeat first | refine ⟨_, rfl, ?_⟩ | refine ⟨_, _, rfl, rfl, ?_⟩ | refine ⟨rfl, ?_⟩ | refine ⟨_, _, rfl, ?_⟩ | refine ⟨_, _, _, rfl, ?_⟩
          refine ⟨fl, _, _, rfl, rfl, eFk, hlt, ?_⟩
          have eB6 : upd G fl (.lst ((ns.length :: acc).map natV ++ [natV k])) lb = some (.lst ((bgs (nsOf ns) m ns.length).map natV)) := by rw [upd_ne nbf]; exact eBk
          repeat first | refine ⟨_, rfl, ?_⟩ | refine ⟨_, _, rfl, rfl, ?_⟩ | refine ⟨rfl, ?_⟩ | refine ⟨_, _, rfl, ?_⟩ | refine ⟨_, _, _, rfl, ?_⟩
          refine ⟨lb, _, _, natV (fB (nsOf ns) m k), rfl, rfl, SqL.of eB6, atI_nat (by rw [List.getElem?_map, e1]; rfl), ?_⟩
          refine ⟨acc ++ [k], rfl, Same.set sm hfl0, eB6, by rw [upd_same, ← List.cons_append, List.map_append]; rfl, by omega, ?_, fun es h => ?_⟩
          · rw [List.length_append]
            show acc.length + 1 + fB (nsOf ns) m k ≤ _
            omega
          · have h2 := hP (es ++ [k]) (.s (by omega) h)
            rw [List.reverse_append]
            simpa using h2
        · have h0 : ¬ (0 : Int) < (k : Int) := of_decide_eq_false (Bool.eq_false_iff.mpr h0)
          obtain rfl : k = 0 := by omega
          have hPE := hP [] .z
          repeat first | refine ⟨_, rfl, ?_⟩ | refine ⟨_, _, rfl, rfl, ?_⟩ | refine ⟨rfl, ?_⟩ | refine ⟨_, _, rfl, ?_⟩ | refine ⟨_, _, _, rfl, ?_⟩
          refine ⟨fl, _, rfl, SqL.of eFk, fun r hr0 => ⟨r, _, rfl, .inl ⟨SqL.of upd_same, fun t2 ht2 => ?_⟩⟩⟩
          refine q _ t2 (same_more (same_more sm hr0) ht2) ?_
          unfold blay
          rw [if_neg he, ← pathOf_uni hF (Nat.le_of_lt hlB) hPE, List.nil_append, ← List.reverse_cons, List.map_reverse]
          exact .of upd_same
end
section
variable {P : Program} {w : World} {K : PySem.W.Frag} {mg : Str → Option Value} {base : Heap}
theorem ok_settled3 (S : Stands K mg "_law_settled" s__law_settled) (B : Blt mg) (D__law_futures : Def P w K mg base CX0 1 "_law_futures" s__law_futures ["_law_width"] (spFew K)) (D__law_ends : Def P w K mg base CX0 2 "_law_ends" s__law_ends ["_law_width", "_law_text_here"] (spEnds2 K)) :
    Def P w K mg base CX0 3 "_law_settled" s__law_settled ["_law_width", "_law_text_here"] (spSettled3 K) := by
  obtain ⟨f, fd, F, hm⟩ := S
  refine ⟨f, fd, F, hm, okG0 F sc__law_settled (fun vs H Q E h => ?_) (fun cdv A outer s H vs Q E hg hr h => ?_)⟩
  · obtain ⟨m, t, ns, rfl, _⟩ := h
    rfl
  · obtain ⟨m, t, ns, rfl, hT, hF, m0, m1, hn, q⟩ := h
    have hu := hr.units
    refine ⟨_, (pss_cons (ps_asg (pe_tup (pa_cons (pe_lc (own := [("_law_future", 5)]) (g := gName 5) (tt := tYes) rfl sc__law_settled.nd (pi_list (pe_callG D__law_futures hg (hr.mono (by decide)) (by rfl) pass0 (fun _ _ _ _ _ _ us hl => match us, hl with | [_], _ => rfl) (pa_cons (pv 0) pa_nil))) (blkOk_by (own := [("_law_future", 5)]) (N := ["_law_width", "_law_text_here", "_law_found", "_law_place", "_law_after", "_law_future", "_law_ends_here", "_law_end"]) (sc := defScope s__law_settled) (by decide +kernel)) (fun _ _ _ _ _ => (pg_name (i := 5) sc__law_settled.nd rfl (Or.inl rfl))) (fun _ _ _ _ _ => pts_nil) (fun _ _ _ _ _ => (pe_callG D__law_ends hg (hr.mono (by decide)) (by rfl) pass0 (fun _ _ _ _ _ _ us hl => match us, hl with | [_, _], _ => rfl) (pa_cons (pv 0) (pa_cons (pe_op (show OpR _ (binaryOp .Add) (rCatB K) from op_catB) (pv 1) (pv 5)) pa_nil))))) (pa_cons pe_int pa_nil))) (pg_tup rfl (pgs_cons (pg_name (i := 2) sc__law_settled.nd rfl (Or.inl rfl)) (pgs_cons (pg_name (i := 3) sc__law_settled.nd rfl (Or.inr rfl)) pgs_nil))))
      (pss_cons (ps_while PassesOwn.never (pt_cmpR op_lt (pv 3) (pe_callB call_len_seq (by rfl) B.len PySem.boot_len (pa_cons (pv 1) pa_nil)) (nomark _)) (pss_cons (ps_setLc (i := 4) (own := [("_law_ends_here", 6)]) (g := gName 6) (tt := tYes) rfl sc__law_settled.nd rfl rfl (sw_true rfl rfl rfl (by decide +kernel)) (pi_list (pv 2)) (blkOk_by (own := [("_law_ends_here", 6)]) (N := ["_law_width", "_law_text_here", "_law_found", "_law_place", "_law_after", "_law_future", "_law_ends_here", "_law_end"]) (sc := defScope s__law_settled) (by decide +kernel)) (fun _ _ _ _ _ => (pg_name (i := 6) sc__law_settled.nd rfl (Or.inl rfl))) (fun _ _ _ _ _ => pts_nil) (fun _ _ _ _ _ => (pe_callB (show CallR _ (.builtin "min") (rMin K) from cr_min rfl) (by rfl) B.min PyProof.Rows.boot_min (pa_cons (pe_op op_cat (pe_lc (own := [("_law_end", 7)]) (g := gName 7) rfl sc__law_settled.nd (show PI _ _ _ (iTup K _) from pi_tup (pv 6)) (blkOk_in (own := [("_law_end", 7)]) (N := ["_law_width", "_law_text_here", "_law_found", "_law_place", "_law_after", "_law_future", "_law_ends_here", "_law_end"]) (by decide +kernel)) (fun _ _ _ _ _ => (pg_name (i := 7) sc__law_settled.nd rfl (Or.inl rfl))) (fun _ _ _ _ _ => (pts_one (pt_cmpR op_gt (pv 7) (pv 3) (nomark _)))) (fun _ _ _ _ _ => (pv 7))) (pe_lst (pa_cons (pe_op op_pow pe_int pe_int) pa_nil))) pa_nil))))
      (pss_cons (ps_if (PW.pt (pw_or (pt_cmpR op_ne (pe_callB (show CallR _ (.builtin "min") (rMin K) from cr_min rfl) (by rfl) B.min PyProof.Rows.boot_min (pa_cons (pv 4) pa_nil)) (pe_callB (show CallR _ (.builtin "max") (rMax K) from cr_max rfl) (by rfl) B.max PyProof.Rows.boot_max (pa_cons (pv 4) pa_nil)) (nomark _)) (pw_or1 (pt_cmpR op_gt (pe_ix ix_list (pv 4) pe_int (fun _ _ => rfl)) (pe_callB call_len_seq (by rfl) B.len PySem.boot_len (pa_cons (pv 1) pa_nil)) (nomark _))))) (pss_one (ps_ret (pv 3))) pss_nil)
      (pss_one (ps_set (i := 3) sc__law_settled.nd rfl (Or.inr rfl) (pe_ix ix_list (pv 4) pe_int (fun _ _ => rfl)))))))
      (pss_one (ps_ret (pv 3))))), ?_⟩
    have L1 : 1 ≤ sizeLine := by decide
    have hcl : (ns.map V.int).length = ns.length := List.length_map ..
    have L2_ : 2 ≤ sizeLine := by decide
    obtain ⟨e, hSE, he⟩ := setEnd_ex hF m0
    repeat first | refine ⟨_, rfl, ?_⟩ | refine ⟨_, _, rfl, rfl, ?_⟩ | refine ⟨rfl, ?_⟩ | refine ⟨_, _, rfl, ?_⟩ | refine ⟨_, _, _, rfl, ?_⟩
    refine ⟨m0, by omega, fun H1 l rs s1 hl eL hA => ?_⟩
    have hFl : (fewF m m.toNat).length ≤ 401 := by rw [fewF_len]; omega
    have hFw : ∀ f ∈ fewF m m.toNat, f.length ≤ 2 ∧ ∀ x ∈ f, 1 ≤ x ∧ x ≤ m := fun f hf => fewF_words m0 hf
    have hNil : [] ∈ fewF m m.toNat := fewF_mem.mpr (.inl rfl)
    have fit2 : ∀ f : List Int, (∀ x ∈ f, 1 ≤ x ∧ x ≤ m) → Fit m (ns ++ f) := fun f hf => fit_of fun y hy => by
      rcases List.mem_append.mp hy with hy | hy
      · exact fit_all hF y hy
      · exact hf y hy
    have hcom := fun {p a : Nat} => nx_common (p := p) (a := a) hF m0 (by omega)
    generalize fewF m m.toNat = Fs at hA hFw hFl hNil hcom
    have hrl : rs.length = Fs.length := hA.1
    repeat first | refine ⟨_, rfl, ?_⟩ | refine ⟨_, _, rfl, rfl, ?_⟩ | refine ⟨rfl, ?_⟩ | refine ⟨_, _, rfl, ?_⟩ | refine ⟨_, _, _, rfl, ?_⟩
    refine ⟨⟨_, SqL.of eL⟩, fun D hD => ?_⟩
    refine lc_list (K := K) (a := l) (xs := rs) (fun i G => Same H1 G ∧ ∃ ws, G D = some (.lst ws) ∧ AllAt (TpAt K G) ws ((Fs.take i).map fun f => blay (ns ++ f) m)) ⟨Same.new hD, [], upd_same, AllAt.nil⟩ (fun i G _ h => SqL.of (h.1 _ _ eL)) ?_ ?_
    · rintro i x G hx ⟨sg, ws, eW, hW⟩
      obtain ⟨fs, xa, rfl, hfs, hP⟩ := hA.get hx
      have hi := (List.getElem?_eq_some_iff.mp hfs).1
      obtain ⟨w1, w2⟩ := hFw _ (List.mem_of_getElem? hfs)
      refine ⟨rfl, ?_⟩
      repeat first | refine ⟨_, rfl, ?_⟩ | refine ⟨_, _, rfl, rfl, ?_⟩ | refine ⟨rfl, ?_⟩ | refine ⟨_, _, rfl, ?_⟩ | refine ⟨_, _, _, rfl, ?_⟩
      refine ⟨t, xa, _, _, rfl, rfl, Same.tup (same_tr s1 sg) hT, Same.tup sg hP, ?_, fun G1 rc s2 hRc => ?_⟩
      · rw [List.length_map, List.length_map, sizeLine_eq]
        omega
      rw [← List.map_append] at hRc
      refine ⟨m, rc, ns ++ fs, rfl, hRc, fit2 fs w2, m0, by omega, by rw [List.length_append]; omega, fun G2 be s3 hE => ?_⟩
      have z := same_tr s2 s3
      have eW2 := z _ _ eW
      refine ⟨_, eW2, ?_, Same.set (same_tr sg z) hD, ws ++ [.ref be], upd_same, ?_⟩
      · rw [hW.1, List.length_map, List.length_take, sizeLine_eq]
        omega
      · rw [take_succ hfs, List.map_append]
        exact ((hW.mono (TpAt.same z)).mono (TpAt.lst eW2)).push (TpAt.lst eW2 _ _ hE)
    rintro G2 ⟨s2, ws, eW, hW⟩
    rw [hrl, List.take_length] at hW
    have hwl : ws.length = Fs.length := by rw [hW.1, List.length_map]
    repeat first | refine ⟨_, rfl, ?_⟩ | refine ⟨_, _, rfl, rfl, ?_⟩ | refine ⟨rfl, ?_⟩ | refine ⟨_, _, rfl, ?_⟩ | refine ⟨_, _, _, rfl, ?_⟩
    refine ⟨L2_, fun tp htp => ?_⟩
    have n3 := Same.new (o := .tup [.ref D, .int 0]) htp
    refine ⟨tp, _, rfl, SqT.of upd_same, rfl, _, _, rfl, _, _, rfl, rfl, ?_⟩
    have z3 := same_tr s1 (same_tr s2 n3)
    have eW := n3 _ _ eW
    have hW := hW.mono (TpAt.same n3)
    generalize upd G2 tp (.tup [.ref D, .int 0]) = G3 at eW hW z3 ⊢
    clear n3 htp s2 hA hD eL
    refine ⟨fun b σ G => ∃ (p : Nat) (y4 y5 y6 y7 : Option V), σ = [some (.int m), some (.ref t), some (.ref D), some (natV p), y4, y5, y6, y7] ∧ Same G3 G ∧ Common ns m (StartAt ns m) p ∧ p + b = ns.length,
      ⟨ns.length, 0, _, _, _, _, rfl, Same.refl _, fun _ _ => .inl rfl, Nat.zero_add _⟩, ?_⟩
    rintro b σ G ⟨p, y4, y5, y6, y7, rfl, sg, hCp, hpb⟩
    have hpe := hSE.top p hCp
    have hTG := Same.tup (same_tr z3 sg) hT
    have q : ∀ H', Same G H' → Q (natV e) H' := fun H' sm => q H' e (same_tr (same_tr z3 sg) sm) hSE he
    have eWG := sg _ _ eW
    have hWG := hW.mono (TpAt.same sg)
    repeat first | refine ⟨_, rfl, ?_⟩ | refine ⟨_, _, rfl, rfl, ?_⟩ | refine ⟨rfl, ?_⟩ | refine ⟨_, _, rfl, ?_⟩ | refine ⟨_, _, _, rfl, ?_⟩
    refine ⟨t, _, rfl, .inr hTG, ?_⟩
    rw [hcl]
    repeat first | refine ⟨_, rfl, ?_⟩ | refine ⟨_, _, rfl, rfl, ?_⟩ | refine ⟨rfl, ?_⟩ | refine ⟨_, _, rfl, ?_⟩ | refine ⟨_, _, _, rfl, ?_⟩
    refine ite2 (fun h0 => ?_) (fun h0 => ?_)
    · have h0 : (p : Int) < (ns.length : Int) := of_decide_eq_true h0
      refine ⟨fun σ' H2 => ∃ b', b' < b ∧ ∃ (p : Nat) (y4 y5 y6 y7 : Option V), σ' = [some (.int m), some (.ref t), some (.ref D), some (natV p), y4, y5, y6, y7] ∧ Same G3 H2 ∧ Common ns m (StartAt ns m) p ∧ p + b' = ns.length, fun _ _ h => h, ?_⟩
      repeat first | refine ⟨_, rfl, ?_⟩ | refine ⟨_, _, rfl, rfl, ?_⟩ | refine ⟨rfl, ?_⟩ | refine ⟨_, _, rfl, ?_⟩ | refine ⟨_, _, _, rfl, ?_⟩
      refine ⟨⟨_, SqL.of eWG⟩, fun D2 hD2 => ?_⟩
      refine lc_list (K := K) (a := D) (xs := ws) (fun j G' => Same G G' ∧ ∃ vs : List Int, G' D2 = some (.lst (vs.map V.int)) ∧ vs.length = j ∧ ∀ (k : Nat) (L : List Nat) (v : Int), (Fs.map fun f => blay (ns ++ f) m)[k]? = some L → vs[k]? = some v → IsNx p L v) ⟨Same.new hD2, [], upd_same, rfl, fun k L v _ z => by simp at z⟩ (fun j G' _ h => SqL.of (h.1 _ _ eWG)) ?_ ?_
      · rintro j x G' hx ⟨sg', vs, eV, hvl, hV⟩
        obtain ⟨L, a, rfl, hL, hP⟩ := hWG.get hx
        have hj := (List.getElem?_eq_some_iff.mp hL).1
        rw [List.length_map] at hj
        have hLm := List.mem_of_getElem? hL
        obtain ⟨f0, hf0, hLf⟩ := List.mem_map.mp hLm
        have hLl : L.length ≤ 302 := by
          have hF2 := fit2 f0 (hFw f0 hf0).2
          have := (blay_char hF2).1.1.len
          rw [List.length_append] at this
          have := (hFw f0 hf0).1
          rw [← hLf]
          omega
        have hPa := Same.tup sg' hP
        refine ⟨rfl, ?_⟩
        repeat first | refine ⟨_, rfl, ?_⟩ | refine ⟨_, _, rfl, rfl, ?_⟩ | refine ⟨rfl, ?_⟩ | refine ⟨_, _, rfl, ?_⟩ | refine ⟨_, _, _, rfl, ?_⟩
        refine ⟨⟨_, hPa⟩, fun D3 hD3 => ?_⟩
        refine lc_tup (K := K) (a := a) (xs := L.map natV) (fun i G2 => Same G' G2 ∧ G2 D3 = some (.lst (((L.take i).filter fun x => decide (p < x)).map natV))) ⟨Same.new hD3, upd_same⟩ (fun i G2 _ h => Same.tup h.1 hPa) ?_ ?_
        · rintro i x G2 hx ⟨s2, eD⟩
          rw [List.getElem?_map] at hx
          obtain ⟨y, hy, rfl⟩ := Option.map_eq_some_iff.mp hx
          have hi := (List.getElem?_eq_some_iff.mp hy).1
          repeat first | refine ⟨_, rfl, ?_⟩ | refine ⟨_, _, rfl, rfl, ?_⟩ | refine ⟨rfl, ?_⟩ | refine ⟨_, _, rfl, ?_⟩ | refine ⟨_, _, _, rfl, ?_⟩
          refine ite2 (fun h => ?_) (fun h => ?_)
          · have h : (p : Int) < (y : Int) := of_decide_eq_true h
            refine ⟨_, rfl, _, eD, ?_, Same.set s2 hD3, ?_⟩
            · have := List.length_filter_le (fun x => decide (p < x)) (L.take i)
              rw [List.length_take] at this
              rw [List.length_map, sizeLine_eq]
              omega
            · rw [upd_same, take_succ hy, List.filter_append, List.filter_cons_of_pos (by simp; omega), List.map_append]
              rfl
          · have h : ¬ (p : Int) < (y : Int) := of_decide_eq_false (Bool.eq_false_iff.mpr h)
            refine ⟨s2, ?_⟩
            rw [take_succ hy, List.filter_append, List.filter_cons_of_neg (by simp; omega), List.filter_nil, List.append_nil]
            exact eD
        rintro G4 ⟨s4, eD3⟩
        rw [List.length_map, List.take_length] at eD3
        repeat first | refine ⟨_, rfl, ?_⟩ | refine ⟨_, _, rfl, rfl, ?_⟩ | refine ⟨rfl, ?_⟩ | refine ⟨_, _, rfl, ?_⟩ | refine ⟨_, _, _, rfl, ?_⟩
        refine ⟨⟨by decide, by decide, by decide⟩, ?_⟩
        repeat first | refine ⟨_, rfl, ?_⟩ | refine ⟨_, _, rfl, rfl, ?_⟩ | refine ⟨rfl, ?_⟩ | refine ⟨_, _, rfl, ?_⟩ | refine ⟨_, _, _, rfl, ?_⟩
        refine ⟨L1, fun l9 hl9 => ?_⟩
        have n9 := Same.new (o := .lst [.int (10 ^ Int.toNat 9)]) hl9
        have hfl : (L.filter fun x => decide (p < x)).length ≤ 302 := Nat.le_trans (List.length_filter_le _ _) hLl
        refine ⟨D3, l9, _, _, rfl, rfl, n9 _ _ eD3, upd_same, ?_, fun l10 hl10 => ?_⟩
        · rw [List.length_map, sizeLine_eq]
          show _ + 1 ≤ _
          omega
        have e10 : (L.filter fun x => decide (p < x)).map natV ++ [V.int (10 ^ Int.toNat 9)] = (((L.filter fun x => decide (p < x)).map fun x : Nat => (x : Int)) ++ [1000000000]).map V.int := by
          rw [List.map_append, List.map_map]
          rfl
        rw [e10]
        have n10 := Same.new (o := .lst ((((L.filter fun x => decide (p < x)).map fun x : Nat => (x : Int)) ++ [1000000000]).map V.int)) hl10
        refine ⟨l10, _, rfl, SqL.of upd_same, by simp, fun mn h1 h2 => ?_⟩
        have z10 := same_tr s4 (same_tr n9 n10)
        refine ⟨_, z10 _ _ eV, ?_, Same.set (same_tr sg' z10) hD2, vs ++ [mn], ?_, ?_, ?_⟩
        · rw [List.length_map, sizeLine_eq]
          omega
        · rw [upd_same, List.map_append]
          rfl
        · rw [List.length_append, hvl]
          rfl
        · intro k L' v hk hv
          by_cases hkj : k < j
          · rw [List.getElem?_append_left (by omega)] at hv
            exact hV k L' v hk hv
          · have hv2 := (List.getElem?_eq_some_iff.mp hv).1
            rw [List.length_append, List.length_singleton] at hv2
            have : k = j := by omega
            subst this
            rw [List.getElem?_append_right (by omega), hvl, Nat.sub_self] at hv
            obtain rfl := Option.some.inj hv
            rw [hL] at hk
            obtain rfl := Option.some.inj hk
            refine ⟨?_, h2 _ (List.mem_append_right _ (List.mem_singleton.mpr rfl)), fun x hx hp => h2 _ (List.mem_append_left _ (List.mem_map.mpr ⟨x, List.mem_filter.mpr ⟨hx, decide_eq_true hp⟩, rfl⟩))⟩
            rcases List.mem_append.mp h1 with h1 | h1
            · obtain ⟨x, hx, hx2⟩ := List.mem_map.mp h1
              obtain ⟨hx3, hx4⟩ := List.mem_filter.mp hx
              exact .inr ⟨x, hx3, of_decide_eq_true hx4, hx2.symm⟩
            · exact .inl (List.mem_singleton.mp h1)
      · rintro G5 ⟨s5, vs, eV, hvl, hV⟩
        rw [hwl] at hvl
        have hpos : 0 < Fs.length := List.length_pos_of_mem hNil
        have hval : ∀ v ∈ vs, ∃ f ∈ Fs, IsNx p (blay (ns ++ f) m) v := fun v hv => by
          obtain ⟨k, hk⟩ := List.mem_iff_getElem?.mp hv
          have hkl := (List.getElem?_eq_some_iff.mp hk).1
          have hkF : k < Fs.length := by omega
          exact ⟨Fs[k], List.getElem_mem hkF, hV k _ v (by rw [List.getElem?_map, List.getElem?_eq_getElem hkF]; rfl) hk⟩
        have hall2 : ∀ f ∈ Fs, ∃ v ∈ vs, IsNx p (blay (ns ++ f) m) v := fun f hf => by
          obtain ⟨k, hk⟩ := List.mem_iff_getElem?.mp hf
          have hkl := (List.getElem?_eq_some_iff.mp hk).1
          have hkv : k < vs.length := by omega
          exact ⟨vs[k], List.getElem_mem hkv, hV k _ _ (by rw [List.getElem?_map, hk]; rfl) (List.getElem?_eq_getElem hkv)⟩
        have hlow : p < e → ∃ a : Nat, a ≤ e ∧ ∀ v ∈ vs, v = (a : Int) := fun hlt => by
          obtain ⟨a, h1, h2⟩ := nx_below hF m0 (by omega) hSE he hlt
          refine ⟨a, h1, fun v hv => ?_⟩
          obtain ⟨f, hf, hx⟩ := hval v hv
          exact h2 f (hFw f hf).2 v hx
        have ret : ¬ p < e → ∀ H', Same G H' → Q (natV p) H' := fun h H' sm => by
          have : p = e := by omega
          rw [this]
          exact q H' sm
        repeat first | refine ⟨_, rfl, ?_⟩ | refine ⟨_, _, rfl, rfl, ?_⟩ | refine ⟨rfl, ?_⟩ | refine ⟨_, _, rfl, ?_⟩ | refine ⟨_, _, _, rfl, ?_⟩
        refine ⟨D2, vs, rfl, SqL.of eV, by omega, fun mn a1 a2 => ?_⟩
        repeat first | refine ⟨_, rfl, ?_⟩ | refine ⟨_, _, rfl, rfl, ?_⟩ | refine ⟨rfl, ?_⟩ | refine ⟨_, _, rfl, ?_⟩ | refine ⟨_, _, _, rfl, ?_⟩
        refine ⟨D2, vs, rfl, SqL.of eV, by omega, fun mx b1 b2 => ?_⟩
        repeat first | refine ⟨_, rfl, ?_⟩ | refine ⟨_, _, rfl, rfl, ?_⟩ | refine ⟨rfl, ?_⟩ | refine ⟨_, _, rfl, ?_⟩ | refine ⟨_, _, _, rfl, ?_⟩
        refine ite2 (fun h => ?_) (fun h => ?_)
        · have h : ¬ V.int mn = V.int mx := fun z => by
            rw [z, decide_eq_true rfl] at h
            exact absurd h (by decide)
          repeat first | refine ⟨_, rfl, ?_⟩ | refine ⟨_, _, rfl, rfl, ?_⟩ | refine ⟨rfl, ?_⟩ | refine ⟨_, _, rfl, ?_⟩ | refine ⟨_, _, _, rfl, ?_⟩
          refine ret (fun hlt => ?_) _ s5
          obtain ⟨a, _, hv⟩ := hlow hlt
          exact h (by rw [hv mn a1, hv mx b1])
        · have hmm : mn = mx := by
            by_cases hz : V.int mn = V.int mx
            · injection hz
            · exact absurd (by rw [decide_eq_false hz]; rfl) h
          obtain ⟨v0, vr, rfl⟩ : ∃ v0 vr, vs = v0 :: vr := by
            cases vs with
            | nil =>
              simp at hvl
              omega
            | cons a b => exact ⟨a, b, rfl⟩
          have hv0 : v0 = mn := by
            have x1 := a2 v0 (List.mem_cons_self ..)
            have x2 := b2 v0 (List.mem_cons_self ..)
            omega
          repeat first | refine ⟨_, rfl, ?_⟩ | refine ⟨_, _, rfl, rfl, ?_⟩ | refine ⟨rfl, ?_⟩ | refine ⟨_, _, rfl, ?_⟩ | refine ⟨_, _, _, rfl, ?_⟩
          refine ⟨D2, _, _, .int v0, rfl, rfl, SqL.of eV, atI_nat (j := 0) rfl, ?_⟩
          repeat first | refine ⟨_, rfl, ?_⟩ | refine ⟨_, _, rfl, rfl, ?_⟩ | refine ⟨rfl, ?_⟩ | refine ⟨_, _, rfl, ?_⟩ | refine ⟨_, _, _, rfl, ?_⟩
          refine ⟨t, _, rfl, .inr (Same.tup s5 hTG), ?_⟩
          rw [hcl]
          repeat first | refine ⟨_, rfl, ?_⟩ | refine ⟨_, _, rfl, rfl, ?_⟩ | refine ⟨rfl, ?_⟩ | refine ⟨_, _, rfl, ?_⟩ | refine ⟨_, _, _, rfl, ?_⟩
          refine ite2 (fun h5 => ?_) (fun h5 => ?_)
          · have h5 : (ns.length : Int) < v0 := of_decide_eq_true h5
            repeat first | refine ⟨_, rfl, ?_⟩ | refine ⟨_, _, rfl, rfl, ?_⟩ | refine ⟨rfl, ?_⟩ | refine ⟨_, _, rfl, ?_⟩ | refine ⟨_, _, _, rfl, ?_⟩
            refine ret (fun hlt => ?_) _ s5
            obtain ⟨a, ha, hv⟩ := hlow hlt
            have := hv v0 (List.mem_cons_self ..)
            omega
          · have h5 : ¬ (ns.length : Int) < v0 := of_decide_eq_false (Bool.eq_false_iff.mpr h5)
            obtain ⟨f0, hf0, hx0⟩ := hval v0 (List.mem_cons_self ..)
            have hgt := hx0.gt (by omega)
            obtain ⟨a, rfl⟩ := Int.eq_ofNat_of_zero_le (show 0 ≤ v0 by omega)
            have hCa := hcom (p := p) (a := a) (by omega) (fun f hf => by
              obtain ⟨v, hv, hx⟩ := hall2 f hf
              have x1 := a2 v hv
              have x2 := b2 v hv
              have : v = (a : Int) := by omega
              rw [← this]
              exact hx)
            repeat first | refine ⟨_, rfl, ?_⟩ | refine ⟨_, _, rfl, rfl, ?_⟩ | refine ⟨rfl, ?_⟩ | refine ⟨_, _, rfl, ?_⟩ | refine ⟨_, _, _, rfl, ?_⟩
            refine ⟨D2, _, _, natV a, rfl, rfl, SqL.of eV, atI_nat (j := 0) rfl, ?_⟩
            exact ⟨ns.length - a, by omega, a, _, _, _, _, rfl, same_tr sg s5, hCa, by omega⟩
    · have h0 : ¬ (p : Int) < (ns.length : Int) := of_decide_eq_false (Bool.eq_false_iff.mpr h0)
      have : p = e := by omega
      subst this
      repeat first | refine ⟨_, rfl, ?_⟩ | refine ⟨_, _, rfl, rfl, ?_⟩ | refine ⟨rfl, ?_⟩ | refine ⟨_, _, rfl, ?_⟩ | refine ⟨_, _, _, rfl, ?_⟩
      exact q _ (Same.refl _)
end
section
variable {P : Program} {w : World} {K : PySem.W.Frag} {mg : Str → Option Value} {base : Heap}
theorem ok_Table_init {C : Addr} (T : TabC K mg C) (S : IStands K C "Table.__init__" s_Table_init) : IDef P w K mg base CX0 1 C "Table.__init__" s_Table_init ["self", "line_width"] (spTabI C) := by
  obtain ⟨f, fd, F, M⟩ := S
  refine ⟨f, fd, F, M, okG0 F sc_Table_init (fun vs H Q E h => ?_) (fun cdv A outer s H vs Q E hg hr h => ?_)⟩
  · obtain ⟨p, dx, m, rfl, _⟩ := h
    rfl
  · obtain ⟨p, dx, m, rfl, hp, q⟩ := h
    refine ⟨_, (pss_cons (ps_fld (pv 0) (pv 1) rfl)
      (pss_cons (ps_fld (pv 0) (pe_lst pa_nil) rfl)
      (pss_cons (ps_fld (pv 0) (pe_lst (pa_cons pe_int pa_nil)) rfl)
      (pss_one (ps_fld (pv 0) (pe_lst (pa_cons (pe_lst pa_nil) pa_nil)) rfl))))), ?_⟩
    refine ⟨_, rfl, _, rfl, p, C, dx, [], rfl, hp, T.cl, T.nL, (by show 0 < 1000; decide), ?_⟩
    rw [tf_put1]
    have k1 : Kp p H (upd H p (.ins C dx [(("line_width" : Str), .int m)])) := Kp.self
    have p1 : upd H p (.ins C dx [(("line_width" : Str), .int m)]) p = some (.ins C dx [(("line_width" : Str), .int m)]) := upd_same
    generalize upd H p (.ins C dx [(("line_width" : Str), .int m)]) = G1 at k1 p1 ⊢
    refine ⟨Nat.zero_le _, fun lw hw => ?_⟩
    have nw : p ≠ lw := ne_of_none p1 hw
    refine ⟨_, rfl, p, C, dx, _, rfl, new_past hw p1, T.cl, T.nW, (by show 1 < 1000; decide), ?_⟩
    rw [tf_put2]
    have hw0 : H lw = none := k1.free nw.symm hw
    have k2 := (k1.trans (Kp.new (o := .lst []) hw)).trans (Kp.self (o := .ins C dx [(("line_width" : Str), V.int m), ("words", .ref lw)]))
    have p2 : upd (upd G1 lw (.lst [])) p (.ins C dx [(("line_width" : Str), V.int m), ("words", .ref lw)]) p = some (.ins C dx [(("line_width" : Str), V.int m), ("words", .ref lw)]) := upd_same
    have w2 : upd (upd G1 lw (.lst [])) p (.ins C dx [(("line_width" : Str), V.int m), ("words", .ref lw)]) lw = some (.lst []) := by rw [upd_ne nw.symm, upd_same]
    generalize upd (upd G1 lw (.lst [])) p (.ins C dx [(("line_width" : Str), V.int m), ("words", .ref lw)]) = G2 at k2 p2 w2 ⊢
    refine ⟨(by show 1 ≤ sizeLine; decide), fun lc hc => ?_⟩
    have nc : p ≠ lc := ne_of_none p2 hc
    have nwc : lw ≠ lc := ne_of_none w2 hc
    refine ⟨_, rfl, p, C, dx, _, rfl, new_past hc p2, T.cl, T.nC, (by show 2 < 1000; decide), ?_⟩
    rw [tf_put3]
    have hc0 : H lc = none := k2.free nc.symm hc
    have k3 := (k2.trans (Kp.new (o := .lst [.int 0]) hc)).trans (Kp.self (o := .ins C dx [(("line_width" : Str), V.int m), ("words", .ref lw), ("costs", .ref lc)]))
    have p3 : upd (upd G2 lc (.lst [.int 0])) p (.ins C dx [(("line_width" : Str), V.int m), ("words", .ref lw), ("costs", .ref lc)]) p = some (.ins C dx [(("line_width" : Str), V.int m), ("words", .ref lw), ("costs", .ref lc)]) := upd_same
    have c3 : upd (upd G2 lc (.lst [.int 0])) p (.ins C dx [(("line_width" : Str), V.int m), ("words", .ref lw), ("costs", .ref lc)]) lc = some (.lst [.int 0]) := by rw [upd_ne nc.symm, upd_same]
    have w3 : upd (upd G2 lc (.lst [.int 0])) p (.ins C dx [(("line_width" : Str), V.int m), ("words", .ref lw), ("costs", .ref lc)]) lw = some (.lst []) := by rw [upd_ne nw.symm, upd_ne nwc]; exact w2
    generalize upd (upd G2 lc (.lst [.int 0])) p (.ins C dx [(("line_width" : Str), V.int m), ("words", .ref lw), ("costs", .ref lc)]) = G3 at k3 p3 c3 w3 ⊢
    refine ⟨Nat.zero_le _, fun l0 h0 => ⟨(by show 1 ≤ sizeLine; decide), fun lb hb => ?_⟩⟩
    have p4 := new_past (o := .lst []) h0 p3
    have c4 := new_past (o := .lst []) h0 c3
    have w4 := new_past (o := .lst []) h0 w3
    have z4 : upd G3 l0 (.lst []) l0 = some (.lst []) := upd_same
    have k4 := k3.trans (Kp.new (o := .lst []) h0)
    have n0 : p ≠ l0 := ne_of_none p3 h0
    have n0w : lw ≠ l0 := ne_of_none w3 h0
    have n0c : lc ≠ l0 := ne_of_none c3 h0
    generalize upd G3 l0 (.lst []) = G4 at k4 p4 c4 w4 z4 hb ⊢
    have nb : p ≠ lb := ne_of_none p4 hb
    have nwb : lw ≠ lb := ne_of_none w4 hb
    have ncb : lc ≠ lb := ne_of_none c4 hb
    have n0b : l0 ≠ lb := ne_of_none z4 hb
    refine ⟨_, rfl, p, C, dx, _, rfl, new_past hb p4, T.cl, T.nB, (by show 3 < 1000; decide), ?_⟩
    rw [tf_put4]
    refine q _ ((k4.trans (Kp.new hb)).trans Kp.self) ⟨lw, lc, lb, [.ref l0], hw0, hc0, k4.free nb.symm hb, upd_same, ?_, ?_, ?_, ?_, nwc, nwb, ncb⟩
    · rw [upd_ne nw.symm, upd_ne nwb]; exact w4
    · rw [upd_ne nc.symm, upd_ne ncb]; exact c4
    · rw [upd_ne nb.symm, upd_same]
    · refine AllAt.push AllAt.nil ⟨?_, n0w.symm, n0c.symm, n0b⟩
      rw [upd_ne n0.symm, upd_ne n0b]; exact z4
end
section
variable {P : Program} {w : World} {K : PySem.W.Frag} {mg : Str → Option Value} {base : Heap}
theorem ok_last_lines (S : Stands K mg "last_lines" s_last_lines) (B : Blt mg) : Def P w K mg base CX0 1 "last_lines" s_last_lines ["width", "words"] (spLinesW K) := by
  obtain ⟨f, fd, F, hm⟩ := S
  refine ⟨f, fd, F, hm, okG0 F sc_last_lines (fun vs H Q E h => ?_) (fun cdv A outer s H vs Q E hg hr h => ?_)⟩
  · obtain ⟨m, t, ns, rfl, _⟩ := h
    rfl
  · obtain ⟨m, t, ns, rfl, hT, hn, q⟩ := h
    refine ⟨_, (pss_cons (ps_set (i := 2) sc_last_lines.nd rfl (Or.inl rfl) (pe_lst pa_nil))
      (pss_cons (ps_set (i := 3) sc_last_lines.nd rfl (Or.inl rfl) (pe_callB call_len_seq (by rfl) B.len PySem.boot_len (pa_cons (pv 1) pa_nil)))
      (pss_cons (ps_set (i := 4) sc_last_lines.nd rfl (Or.inl rfl) (pe_op op_add (pv 0) pe_int))
      (pss_cons (ps_while PassesOwn.never (PW.pt (pw_and (pt_cmpR op_gt (pv 3) pe_int (nomark _)) (pw_and1 (pt_cmpR op_lt (pe_ix ix_list (pv 1) (pe_op op_sub (pv 3) pe_int) (fun _ _ => rfl)) (pv 4) (nomark _))))) (pss_cons (ps_aug (i := 3) sc_last_lines.nd rfl (Or.inl rfl) pe_int ip_sub)
      (pss_cons (ps_aug (i := 4) sc_last_lines.nd rfl (Or.inl rfl) (pe_op op_add (pe_ix ix_list (pv 1) (pv 3) (fun _ _ => rfl)) pe_int) ip_sub)
      (pss_one (ps_expr (pe_bm PySem.F.plainAttrs_list PySem.F.slot_list_append PySem.F.type_list_append mt_append (pv 2) (pa_cons (pe_tup (pa_cons (pv 3) (pa_cons (pv 4) pa_nil))) pa_nil)))))))
      (pss_one (ps_ret (pv 2))))))), ?_⟩
    have hcl : (ns.map V.int).length = ns.length := List.length_map ..
    obtain ⟨e, he⟩ : ∃ e, e = ns.length := ⟨_, rfl⟩
    refine ⟨Nat.zero_le _, fun l hl => ?_⟩
    refine ⟨_, rfl, t, _, rfl, .inl (SqL.of (Same.new hl _ _ hT)), ?_⟩
    refine ⟨_, rfl, _, _, rfl, rfl, ?_⟩
    refine ⟨fun b σ H' => ∃ (g : Int) (rs : List V) (pd : List (Nat × Int)), σ = [some (.int m), some (.ref t), some (.ref l), some (.int (b : Int)), some (.int g)] ∧ Same H H' ∧ H' l = some (.lst rs) ∧ AllAt (LnAt H') rs pd ∧ pd ++ linesF (nsOf ns) b g = linesF (nsOf ns) e (m + 1) ∧ b ≤ e ∧ pd.length + b ≤ e,
      ⟨e, m + 1, [], [], by rw [he, ← hcl]; rfl, Same.new hl, upd_same, AllAt.nil, rfl, Nat.le_refl _, Nat.le_of_eq (Nat.zero_add _)⟩, ?_⟩
    rintro b σ H' ⟨g, rs, pd, rfl, sm, eL, hA, hE, hb, hpl⟩
    have fin : linesF (nsOf ns) b g = [] → Q (.ref l) H' := fun z => by
      rw [z, List.append_nil] at hE
      exact q H' l rs sm hl eL (he ▸ hE ▸ hA)
    refine ⟨_, rfl, _, _, rfl, rfl, _, rfl, ite2 (fun h0 => ?_) (fun h0 => ?_)⟩
    · have h0 := of_decide_eq_true h0
      match b, hE, hb, hpl, fin, h0 with
      | b + 1, hE, hb, hpl, fin, h0 =>
      have hx : atI (ns.map V.int) (((b + 1 : Nat) : Int) - 1) = some (.int (nsOf ns b)) := by
        rw [show ((b + 1 : Nat) : Int) - 1 = (b : Int) by omega]
        exact atI_nat (nsOf_at (by omega))
      refine ⟨_, rfl, _, rfl, _, _, rfl, rfl, t, _, _, _, rfl, rfl, SqL.of (sm _ _ hT), hx, _, rfl, _, _, rfl, rfl, _, rfl, ite2 (fun h1 => ?_) (fun h1 => ?_)⟩
      · have h1 := of_decide_eq_true h1
        refine ⟨fun σ' H2 => _, fun _ _ h => ⟨b, Nat.lt_succ_self b, h⟩, ?_⟩
        refine ⟨_, rfl, _, _, rfl, rfl, ?_⟩
        refine ⟨_, rfl, _, rfl, _, rfl, t, _, _, _, rfl, rfl, SqL.of (sm _ _ hT), hx, _, _, rfl, rfl, _, _, rfl, rfl, ?_⟩
        refine ⟨_, rfl, .inl ⟨rfl, _, SqL.of eL⟩, _, rfl, _, rfl, (by show 2 ≤ sizeLine; decide), fun a ha => ?_⟩
        have nal : l ≠ a := ne_of_none eL ha
        have eL2 := new_past (o := .tup [.int (((b + 1 : Nat) : Int) - 1), .int (g - (nsOf ns b + 1))]) ha eL
        refine ⟨l, rs, _, rfl, rfl, eL2, ?_, ?_⟩
        · rw [hA.1, sizeLine_eq]
          omega
        have e1 : ((b + 1 : Nat) : Int) - 1 = (b : Int) := by omega
        refine ⟨g - (nsOf ns b + 1), rs ++ [.ref a], pd ++ [(b, g - (nsOf ns b + 1))], ?_, Same.set (same_more sm ha) hl, upd_same, ?_, ?_, by omega, ?_⟩
        · show [_, _, _, some (V.int (((b + 1 : Nat) : Int) - 1)), _] = _
          rw [e1]
        · refine ((hA.mono (LnAt.new ha)).mono (LnAt.lst eL2)).push (tup_past eL2 ?_)
          rw [upd_same, e1]
        · rw [← hE, List.append_assoc, linesF_yes h1]
          rfl
        · rw [List.length_append]
          show pd.length + 1 + b ≤ e
          omega
      · have h1 := of_decide_eq_false (Bool.eq_false_iff.mpr h1)
        exact iteF (A := True) ⟨_, rfl, fin (linesF_no h1)⟩
    · have h0 := of_decide_eq_false (Bool.eq_false_iff.mpr h0)
      refine iteF ⟨_, rfl, fin ?_⟩
      rw [show b = 0 by omega]
      rfl
end
section
variable {P : Program} {w : World} {K : PySem.W.Frag} {mg : Str → Option Value} {base : Heap}
theorem ok_cheapest (S : Stands K mg "cheapest" s_cheapest) (B : Blt mg) : Def P w K mg base CX0 1 "cheapest" s_cheapest ["rated"] spCheap2 := by
  obtain ⟨f, fd, F, hm⟩ := S
  refine ⟨f, fd, F, hm, okG0 F sc_cheapest (fun vs H Q E h => ?_) (fun cdv A outer s H vs Q E hg hr h => ?_)⟩
  · obtain ⟨l, rs, ps, rfl, _⟩ := h
    rfl
  · obtain ⟨l, rs, ps, rfl, eL, hA, hne, hl, q⟩ := h
    refine ⟨_, (pss_cons (ps_set (i := 1) sc_cheapest.nd rfl (Or.inr rfl) (pe_callB (cr_min rfl) (by rfl) B.min PyProof.Rows.boot_min (pa_cons (pe_lc (own := [("price", 2), ("_", 3)]) (g := gTup _ 2 (gCons (gName 2) (gCons (gName 3) gNil))) (tt := tYes) rfl sc_cheapest.nd (pi_list (pv 0)) (blkOk_by (own := [("price", 2), ("_", 3)]) (N := ["rated", "least", "price", "_", "begin"]) (sc := defScope s_cheapest) (by decide +kernel)) (fun _ _ _ _ _ => (pg_tup rfl (pgs_cons (pg_name (i := 2) sc_cheapest.nd rfl (Or.inl rfl)) (pgs_cons (pg_name (i := 3) sc_cheapest.nd rfl (Or.inl rfl)) pgs_nil)))) (fun _ _ _ _ _ => pts_nil) (fun _ _ _ _ _ => (pv 2))) pa_nil)))
      (pss_one (ps_ret (pe_tup (pa_cons (pv 1) (pa_cons (pe_lc (own := [("price", 2), ("begin", 4)]) (g := gTup _ 2 (gCons (gName 2) (gCons (gName 4) gNil))) rfl sc_cheapest.nd (pi_list (pv 0)) (blkOk_by (own := [("price", 2), ("begin", 4)]) (N := ["rated", "least", "price", "_", "begin"]) (sc := defScope s_cheapest) (by decide +kernel)) (fun _ _ _ _ _ => (pg_tup rfl (pgs_cons (pg_name (i := 2) sc_cheapest.nd rfl (Or.inl rfl)) (pgs_cons (pg_name (i := 4) sc_cheapest.nd rfl (Or.inl rfl)) pgs_nil)))) (fun _ _ _ _ _ => (pts_one (pt_cmpR op_eq (pv 2) (pv 1) (nomark _)))) (fun _ _ _ _ _ => (pv 4))) pa_nil)))))), ?_⟩
    have hrl : rs.length ≤ 2000 := by rw [hA.1]; exact hl
    -- the prices
    refine ⟨_, rfl, l, rfl, ⟨_, SqL.of eL⟩, fun D hD => ?_⟩
    refine lc_list (K := K) (a := l) (xs := rs) (fun i H' => Same H H' ∧ H' D = some (.lst (((ps.take i).map (·.1)).map V.int))) ⟨Same.new hD, upd_same⟩ (fun i H' _ h => SqL.of (h.1 _ _ eL)) ?_ ?_
    · rintro i x H' hx ⟨sm, eD⟩
      obtain ⟨p, a, rfl, hp, hR⟩ := hA.get hx
      refine ⟨a, _, rfl, SqT.of (sm _ _ hR), rfl, _, _, rfl, _, _, rfl, rfl, rfl, ?_⟩
      refine ⟨_, rfl, _, eD, ?_, Same.set sm hD, ?_⟩
      · rw [List.length_map, List.length_map, List.length_take, sizeLine_eq]
        omega
      · rw [upd_same, take_succ hp, List.map_append, List.map_append]
        rfl
    · rintro H1 ⟨sm, eD⟩
      rw [take_all hA] at eD
      refine ⟨D, _, rfl, SqL.of eD, ?_, fun z h1 h2 => ?_⟩
      · rw [List.length_map]
        exact List.length_pos_iff.mpr hne
      rw [least_uni h1 h2]
      clear h1 h2 z
      -- those that cost so much
      refine ⟨_, rfl, _, rfl, l, rfl, ⟨_, SqL.of (sm _ _ eL)⟩, fun D2 hD2 => ?_⟩
      have hD20 := same_free sm hD2
      refine lc_list (K := K) (a := l) (xs := rs) (fun i H' => Same H H' ∧ H' D2 = some (.lst ((((ps.take i).filter fun r => decide (r.1 = least ps)).map (·.2)).map fun b : Nat => V.int (b : Int)))) ⟨Same.set sm hD20, upd_same⟩ (fun i H' _ h => SqL.of (h.1 _ _ eL)) ?_ ?_
      · rintro i x H' hx ⟨sm2, eD2⟩
        obtain ⟨p, a, rfl, hp, hR⟩ := hA.get hx
        refine ⟨a, _, rfl, SqT.of (sm2 _ _ hR), rfl, _, _, rfl, _, _, rfl, rfl, rfl, ?_⟩
        refine ⟨_, rfl, _, rfl, rfl, _, rfl, ?_⟩
        rw [dec_ints]
        refine ite2 (fun hc => ?_) (fun hc => ?_)
        · refine ⟨_, rfl, _, eD2, ?_, Same.set sm2 hD20, ?_⟩
          · have hfl := List.length_filter_le (fun r : Int × Nat => decide (r.1 = least ps)) (ps.take i)
            rw [List.length_map, List.length_map, sizeLine_eq]
            rw [List.length_take] at hfl
            omega
          · rw [upd_same, take_succ hp, List.filter_append, List.map_append, List.map_append, List.filter_cons, if_pos hc]
            rfl
        · refine ⟨sm2, ?_⟩
          rw [eD2, take_succ hp, List.filter_append, List.filter_cons, if_neg hc, List.filter_nil, List.append_nil]
      · rintro H2 ⟨sm2, eD2⟩
        rw [take_all hA] at eD2
        refine ⟨(by show 2 ≤ sizeLine; decide), fun t ht => ?_⟩
        exact q _ t D2 (same_more sm2 ht) upd_same hD20 (new_past ht eD2)
end
section
variable {P : Program} {w : World} {K : PySem.W.Frag} {mg : Str → Option Value} {base : Heap}
theorem ok_Table_grow {C : Addr} (T : TabC K mg C) (S : MStands K C "grow" "Table.grow" s_Table_grow) (B : Blt mg) (D_last_lines : Def P w K mg base CX0 1 "last_lines" s_last_lines ["width", "words"] (spLinesW K)) (D_cheapest : Def P w K mg base CX0 1 "cheapest" s_cheapest ["rated"] spCheap2) :
    MDef P w K mg base CX0 2 C "grow" "Table.grow" s_Table_grow ["self", "word"] (spGrow C) := by
  obtain ⟨f, fd, F, M⟩ := S
  refine ⟨f, fd, F, M, okG0 F sc_Table_grow (fun vs H Q E h => ?_) (fun cdv A outer s H vs Q E hg hr h => ?_)⟩
  · obtain ⟨H0, p, m, x, ns, rfl, _⟩ := h
    rfl
  · obtain ⟨H0, p, m, x, ns, rfl, ⟨s0, dx, lw, lc, lb, rs, hw0, hc0, hb0, hp, hL⟩, hF, hm0, hm1, hn, q⟩ := h
    refine ⟨_, (pss_cons (ps_expr (pe_bm PySem.F.plainAttrs_list PySem.F.slot_list_append PySem.F.type_list_append mt_append (pe_fld (pv 0) rfl) (pa_cons (pv 1) pa_nil)))
      (pss_cons (ps_set (i := 2) sc_Table_grow.nd rfl (Or.inl rfl) (pe_callG D_last_lines hg (hr.mono (by decide)) (by rfl) pass0 (fun _ _ _ _ _ _ us hl => match us, hl with | [_, _], _ => rfl) (pa_cons (pe_fld (pv 0) rfl) (pa_cons (pe_fld (pv 0) rfl) pa_nil))))
      (pss_cons (ps_asg (pe_callG D_cheapest hg (hr.mono (by decide)) (by rfl) pass0 (fun _ _ _ _ _ _ us hl => match us, hl with | [_], _ => rfl) (pa_cons (pe_lc (own := [("begin", 5), ("free", 6)]) (g := gTup _ 2 (gCons (gName 5) (gCons (gName 6) gNil))) (tt := tYes) rfl sc_Table_grow.nd (pi_list (pv 2)) (blkOk_by (own := [("begin", 5), ("free", 6)]) (N := ["self", "word", "lines", "least", "begins", "begin", "free"]) (sc := defScope s_Table_grow) (by decide +kernel)) (fun _ _ _ _ _ => (pg_tup rfl (pgs_cons (pg_name (i := 5) sc_Table_grow.nd rfl (Or.inl rfl)) (pgs_cons (pg_name (i := 6) sc_Table_grow.nd rfl (Or.inl rfl)) pgs_nil)))) (fun _ _ _ _ _ => pts_nil) (fun _ _ _ _ _ => (pe_tup (pa_cons (pe_op op_add (pe_ix (r := rIxL K) ix_list (show PE _ _ (tFld K _ "costs") from pe_fld (pv 0) rfl) (pv 5) (fun _ _ => rfl)) (pe_op op_pow (pv 6) pe_int)) (pa_cons (pv 5) pa_nil))))) pa_nil)) (pg_tup rfl (pgs_cons (pg_name (i := 3) sc_Table_grow.nd rfl (Or.inl rfl)) (pgs_cons (pg_name (i := 4) sc_Table_grow.nd rfl (Or.inl rfl)) pgs_nil))))
      (pss_cons (ps_expr (pe_bm PySem.F.plainAttrs_list PySem.F.slot_list_append PySem.F.type_list_append mt_append (pe_fld (pv 0) rfl) (pa_cons (pv 3) pa_nil)))
      (pss_one (ps_expr (pe_bm PySem.F.plainAttrs_list PySem.F.slot_list_append PySem.F.type_list_append mt_append (pe_fld (pv 0) rfl) (pa_cons (pv 4) pa_nil)))))))), ?_⟩
    have npw : p ≠ lw := ne_of hp hL.w (by intro z; cases z)
    have npc : p ≠ lc := ne_of hp hL.c (by intro z; cases z)
    have npb : p ≠ lb := ne_of hp hL.b (by intro z; cases z)
    have hl1 : (ns ++ [x]).length = ns.length + 1 := by rw [List.length_append]; rfl
    have pre : ∀ b < ns.length, nsOf (ns ++ [x]) b = nsOf ns b := fun b hb => ns_pre hb
    have hcs : cs (nsOf (ns ++ [x])) m ns.length = cs (nsOf ns) m ns.length := cs_congr pre
    -- self.words.append(word)
    refine ⟨_, rfl, p, C, dx, _, _, rfl, hp, T.cl, T.nW, tf_W _ _ _ _, .inl ⟨rfl, _, SqL.of hL.w⟩, _, rfl, lw, _, _, rfl, rfl, hL.w, (by rw [List.length_map, sizeLine_eq]; omega), ?_⟩
    have eW : ns.map V.int ++ [V.int x] = (ns ++ [x]).map V.int := by rw [List.map_append]; rfl
    rw [eW]
    have p1 : upd H lw (.lst ((ns ++ [x]).map V.int)) p = some (.ins C dx (tf m lw lc lb)) := by rw [upd_ne npw]; exact hp
    have w1 : upd H lw (.lst ((ns ++ [x]).map V.int)) lw = some (.lst ((ns ++ [x]).map V.int)) := upd_same
    have c1 : upd H lw (.lst ((ns ++ [x]).map V.int)) lc = some (.lst ((cs (nsOf ns) m ns.length).map V.int)) := by rw [upd_ne hL.wc.symm]; exact hL.c
    have b1 : upd H lw (.lst ((ns ++ [x]).map V.int)) lb = some (.lst rs) := by rw [upd_ne hL.wb.symm]; exact hL.b
    have s1 : Same H0 (upd H lw (.lst ((ns ++ [x]).map V.int))) := Same.set s0 hw0
    have a1 : AllAt (fun a bs => upd H lw (.lst ((ns ++ [x]).map V.int)) a = some (.lst (bs.map natV)) ∧ a ≠ lw ∧ a ≠ lc ∧ a ≠ lb) rs (begs (nsOf ns) m ns.length) := hL.all.mono fun a bs h => ⟨by rw [upd_ne h.2.1]; exact h.1, h.2⟩
    generalize upd H lw (.lst ((ns ++ [x]).map V.int)) = G1 at p1 w1 c1 b1 s1 a1 ⊢
    -- last_lines
    refine ⟨_, rfl, p, C, dx, _, _, rfl, p1, T.cl, T.nL, tf_L _ _ _ _, _, rfl, p, C, dx, _, _, rfl, p1, T.cl, T.nW, tf_W _ _ _ _, m, lw, ns ++ [x], rfl, w1, by omega, fun H1 l ls sm1 hl eL hLn => ?_⟩
    rw [hl1] at hLn
    have hp0 := hF.pos (e := ns.length + 1) (by omega)
    have hln := linesF_len (ns := nsOf (ns ++ [x])) (e := ns.length + 1) (f := m + 1)
    -- rated
    refine ⟨_, rfl, l, rfl, ⟨_, SqL.of eL⟩, fun D hD => ?_⟩
    refine lc_list (K := K) (a := l) (xs := ls) (fun i G => Same H1 G ∧ ∃ rr, G D = some (.lst rr) ∧ AllAt (RtAt G) rr (rate (cs (nsOf ns) m ns.length) ((linesF (nsOf (ns ++ [x])) (ns.length + 1) (m + 1)).take i))) ⟨Same.new hD, [], upd_same, AllAt.nil⟩ (fun i G _ h => SqL.of (h.1 _ _ eL)) ?_ ?_
    · rintro i y G hx ⟨sg, rr, eD, hR⟩
      obtain ⟨pp, a, rfl, hpp, hP⟩ := hLn.get hx
      obtain ⟨hp1, hp2, hp3⟩ := linesF_mem hp0 (List.mem_of_getElem? hpp)
      refine ⟨a, _, rfl, SqT.of (sg _ _ hP), rfl, _, _, rfl, _, _, rfl, rfl, rfl, ?_⟩
      refine ⟨_, rfl, p, C, dx, _, _, rfl, sg _ _ (sm1 _ _ p1), T.cl, T.nC, tf_C _ _ _ _, _, rfl, lc, _, _, _, rfl, rfl, SqL.of (sg _ _ (sm1 _ _ c1)), atI_nat (getD_at (by rw [cs_len]; omega)), _, rfl, _, _, rfl, rfl, ⟨by decide, by decide, by omega⟩, _, _, rfl, rfl, _, rfl, (by show 2 ≤ sizeLine; decide), fun t2 ht2 => ?_⟩
      have eD2 := new_past (o := .tup [.int ((cs (nsOf ns) m ns.length).getD pp.1 0 + pp.2 ^ Int.toNat 2), .int (pp.1 : Int)]) ht2 eD
      refine ⟨_, eD2, ?_, Same.set (same_more sg ht2) hD, _, upd_same, ?_⟩
      · rw [hR.1]
        unfold rate
        rw [List.length_map, List.length_take, sizeLine_eq]
        omega
      · unfold rate at hR ⊢
        rw [take_succ hpp, List.map_append]
        refine ((hR.mono (RtAt.new ht2)).mono (RtAt.lst eD2)).push (tup_past eD2 ?_)
        exact upd_same
    · rintro H2 ⟨sg, rr, eD, hR⟩
      rw [take_all hLn] at hR
      have hL1 : nsOf (ns ++ [x]) ns.length < m + 1 := by have := (hF ns.length (by omega)).2; omega
      refine ⟨D, rr, _, rfl, eD, hR, ?_, ?_, fun H3 t3 c3 sm3 et hc3 ec => ?_⟩
      · intro z
        exact linesF_ne hL1 (List.map_eq_nil_iff.mp z)
      · unfold rate
        rw [List.length_map]
        omega
      have k3 : Same G1 H3 := same_tr sm1 (same_tr sg sm3)
      have k2 : Same G1 H2 := same_tr sm1 sg
      have n1 : c3 ≠ lw := (ne_of_none (k2 _ _ w1) hc3).symm
      have n2 : c3 ≠ lc := (ne_of_none (k2 _ _ c1) hc3).symm
      have n3 : c3 ≠ lb := (ne_of_none (k2 _ _ b1) hc3).symm
      have p3 := k3 _ _ p1
      refine ⟨t3, _, rfl, SqT.of et, rfl, _, _, rfl, _, _, rfl, rfl, ?_⟩
      -- self.costs.append(least)
      refine ⟨_, rfl, p, C, dx, _, _, rfl, p3, T.cl, T.nC, tf_C _ _ _ _, .inl ⟨rfl, _, SqL.of (k3 _ _ c1)⟩, _, rfl, lc, _, _, rfl, rfl, k3 _ _ c1, ?_, ?_⟩
      · rw [List.length_map, cs_len, sizeLine_eq]
        omega
      have eC : (cs (nsOf ns) m ns.length).map V.int ++ [.int (least (rate (cs (nsOf ns) m ns.length) (linesF (nsOf (ns ++ [x])) (ns.length + 1) (m + 1))))] = (cs (nsOf (ns ++ [x])) m (ns.length + 1)).map V.int := by
        show _ = (cs (nsOf (ns ++ [x])) m ns.length ++ [least (rate (cs (nsOf (ns ++ [x])) m ns.length) (linesF (nsOf (ns ++ [x])) (ns.length + 1) (m + 1)))]).map V.int
        rw [hcs, List.map_append]
        rfl
      rw [eC]
      have p4 : upd H3 lc (.lst ((cs (nsOf (ns ++ [x])) m (ns.length + 1)).map V.int)) p = some (.ins C dx (tf m lw lc lb)) := by rw [upd_ne npc]; exact p3
      have w4 : upd H3 lc (.lst ((cs (nsOf (ns ++ [x])) m (ns.length + 1)).map V.int)) lw = some (.lst ((ns ++ [x]).map V.int)) := by rw [upd_ne hL.wc]; exact k3 _ _ w1
      have c4 : upd H3 lc (.lst ((cs (nsOf (ns ++ [x])) m (ns.length + 1)).map V.int)) lc = some (.lst ((cs (nsOf (ns ++ [x])) m (ns.length + 1)).map V.int)) := upd_same
      have b4 : upd H3 lc (.lst ((cs (nsOf (ns ++ [x])) m (ns.length + 1)).map V.int)) lb = some (.lst rs) := by rw [upd_ne hL.cb.symm]; exact k3 _ _ b1
      have s4 : Same H0 (upd H3 lc (.lst ((cs (nsOf (ns ++ [x])) m (ns.length + 1)).map V.int))) := Same.set (same_tr s1 k3) hc0
      have a4 : AllAt (fun a bs => upd H3 lc (.lst ((cs (nsOf (ns ++ [x])) m (ns.length + 1)).map V.int)) a = some (.lst (bs.map natV)) ∧ a ≠ lw ∧ a ≠ lc ∧ a ≠ lb) rs (begs (nsOf ns) m ns.length) := a1.mono fun a bs h => ⟨by rw [upd_ne h.2.2.1]; exact k3 _ _ h.1, h.2⟩
      have ec4 : upd H3 lc (.lst ((cs (nsOf (ns ++ [x])) m (ns.length + 1)).map V.int)) c3 = some (.lst ((cheap (rate (cs (nsOf ns) m ns.length) (linesF (nsOf (ns ++ [x])) (ns.length + 1) (m + 1)))).map natV)) := by rw [upd_ne n2]; exact ec
      generalize upd H3 lc (.lst ((cs (nsOf (ns ++ [x])) m (ns.length + 1)).map V.int)) = G4 at p4 w4 c4 b4 s4 a4 ec4 ⊢
      -- self.begins.append(begins)
      refine ⟨_, rfl, p, C, dx, _, _, rfl, p4, T.cl, T.nB, tf_B _ _ _ _, .inl ⟨rfl, _, SqL.of b4⟩, _, rfl, lb, _, _, rfl, rfl, b4, ?_, ?_⟩
      · rw [a4.1, begs_len, sizeLine_eq]
        omega
      refine q _ ⟨Same.set s4 hb0, dx, lw, lc, lb, rs ++ [.ref c3], hw0, hc0, hb0, by rw [upd_ne npb]; exact p4, by rw [upd_ne hL.wb]; exact w4, by rw [upd_ne hL.cb, hl1]; exact c4, upd_same, ?_, hL.wc, hL.wb, hL.cb⟩
      have eB : begs (nsOf (ns ++ [x])) m (ns ++ [x]).length = begs (nsOf ns) m ns.length ++ [cheap (rate (cs (nsOf ns) m ns.length) (linesF (nsOf (ns ++ [x])) (ns.length + 1) (m + 1)))] := by
        rw [hl1]
        show begs (nsOf (ns ++ [x])) m ns.length ++ [cheap (rate (cs (nsOf (ns ++ [x])) m ns.length) (linesF (nsOf (ns ++ [x])) (ns.length + 1) (m + 1)))] = _
        rw [hcs, begs_congr pre]
      rw [eB]
      exact (a4.mono fun a bs h => ⟨by rw [upd_ne h.2.2.2]; exact h.1, h.2⟩).push ⟨by rw [upd_ne n3]; exact ec4, n1, n2, n3⟩
end
section
variable {P : Program} {w : World} {K : PySem.W.Frag} {mg : Str → Option Value} {base : Heap}
theorem ok_table_of {C : Addr} (T : TabC K mg C) (S : Stands K mg "table_of" s_table_of) (B : Blt mg) (D_Table_init : IDef P w K mg base CX0 1 C "Table.__init__" s_Table_init ["self", "line_width"] (spTabI C)) (D_Table_grow : MDef P w K mg base CX0 2 C "grow" "Table.grow" s_Table_grow ["self", "word"] (spGrow C)) :
    Def P w K mg base CX0 3 "table_of" s_table_of ["width", "text"] (spTableOf K C) := by
  obtain ⟨f, fd, F, hm⟩ := S
  refine ⟨f, fd, F, hm, okG0 F sc_table_of (fun vs H Q E h => ?_) (fun cdv A outer s H vs Q E hg hr h => ?_)⟩
  · obtain ⟨m, t, ns, rfl, _⟩ := h
    rfl
  · obtain ⟨m, t, ns, rfl, hT, hF, hm0, hm1, hn, q⟩ := h
    refine ⟨_, (pss_cons (ps_set (i := 2) sc_table_of.nd rfl (Or.inl rfl) (pe_makeG D_Table_init hg (hr.mono (by decide)) (by rfl) T.m pass0 (fun _ _ _ _ _ _ us hl => match us, hl with | [_, _], _ => rfl) (pa_cons (pv 0) pa_nil)))
      (pss_cons (ps_for PassesOwn.never rfl (pi_tup (pv 1)) (pg_name (i := 3) sc_table_of.nd rfl (Or.inl rfl)) (pss_one (ps_expr (pe_methG (pv 2) T.cl D_Table_grow hg (hr.mono (by decide)) pass0 (fun _ _ _ _ _ _ us hl => match us, hl with | [_, _], _ => rfl) (pa_cons (pv 3) pa_nil)))))
      (pss_one (ps_ret (pv 2))))), ?_⟩
    refine ⟨_, rfl, fun p dx hp hdx ne => ⟨p, dx, m, rfl, upd_same, fun H1 k1 hx => ⟨rfl, ?_⟩⟩⟩
    have hp2 : upd H dx (.own p) p = none := by rw [upd_ne ne.symm]; exact hp
    have s1 := same_more (o := .ins C dx []) (Same.new (o := .own p) hdx) hp2
    obtain ⟨lw, lc, lb, rs, hw0, hc0, hb0, e1, hL⟩ := hx
    have s2 : Same H H1 := fun b o e => k1 b o (fun z => by rw [z, hp] at e; cases e) (s1 b o e)
    have t0 : TabAt C H H1 p m (ns.take 0) := ⟨s2, dx, lw, lc, lb, rs, same_free s1 hw0, same_free s1 hc0, same_free s1 hb0, e1, hL⟩
    clear e1 hL hw0 hc0 hb0 k1 s1 hp2
    refine ⟨_, rfl, t, rfl, ⟨_, Same.tup s2 hT⟩, ?_⟩
    refine for_tup (K := K) (a := t) (xs := ns.map V.int) (fun i σ G => ∃ y3 : Option V, σ = [some (.int m), some (.ref t), some (.ref p), y3] ∧ TabAt C H G p m (ns.take i)) ⟨_, rfl, t0⟩ (fun i σ G _ h => by
      obtain ⟨y3, _, h⟩ := h
      exact Same.tup h.1 hT) ?_ ?_
    · rintro i x σ G hx ⟨y3, rfl, tt⟩
      have hi : i < ns.length := by
        have := (List.getElem?_eq_some_iff.mp hx).1
        rwa [List.length_map] at this
      rw [List.getElem?_map, List.getElem?_eq_getElem hi] at hx
      obtain rfl := Option.some.inj hx
      obtain ⟨_, dx', lw, lc, lb, rs', _, _, _, hp', _⟩ := id tt
      have e2 : ns.take i ++ [ns[i]] = ns.take (i + 1) := (take_succ (List.getElem?_eq_getElem hi)).symm
      refine ⟨_, rfl, p, dx', _, rfl, hp', tf_grow _ _ _ _, _, rfl, H, p, m, ns[i], ns.take i, rfl, tt, ?_, hm0, hm1, by rw [List.length_take]; omega, fun G2 t2 => ⟨_, rfl, e2 ▸ t2⟩⟩
      rw [e2]
      intro b hb
      rw [List.length_take] at hb
      have := hF b (by omega)
      unfold nsOf at this ⊢
      rw [List.getD_eq_getElem?_getD, List.getElem?_take_of_lt (by omega), ← List.getD_eq_getElem?_getD]
      exact this
    · rintro σ G ⟨y3, rfl, tt⟩
      rw [List.length_map, List.take_length] at tt
      exact ⟨_, rfl, q G p tt⟩
end
section
variable {P : Program} {w : World} {K : PySem.W.Frag} {mg : Str → Option Value} {base : Heap}
theorem ok_crossings {C : Addr} (T : TabC K mg C) (S : Stands K mg "_crossings" s__crossings) (B : Blt mg) : Def P w K mg base CX0 1 "_crossings" s__crossings ["table"] (spCross C) := by
  obtain ⟨f, fd, F, hm⟩ := S
  refine ⟨f, fd, F, hm, okG0 F sc__crossings (fun vs H Q E h => ?_) (fun cdv A outer s H vs Q E hg hr h => ?_)⟩
  · obtain ⟨H0, p, m, ns, rfl, _⟩ := h
    rfl
  · obtain ⟨H0, p, m, ns, rfl, ⟨s0, dx, lw, lc, lb, rs, hw0, hc0, hb0, hp, hL⟩, hF, hm0, hm1, hn, q⟩ := h
    refine ⟨_, (pss_cons (ps_set (i := 1) sc__crossings.nd rfl (Or.inl rfl) (pe_lst pa_nil))
      (pss_cons (ps_set (i := 2) sc__crossings.nd rfl (Or.inl rfl) (pe_callB call_len_seq (by rfl) B.len PySem.boot_len (pa_cons (pe_fld (pv 0) rfl) pa_nil)))
      (pss_cons (ps_set (i := 3) sc__crossings.nd rfl (Or.inl rfl) (pe_fld (pv 0) rfl))
      (pss_cons (ps_while PassesOwn.never (PW.pt (pw_and (pt_cmpR op_gt (pv 2) pe_int (nomark _)) (pw_and1 (pt_cmpR op_gt (pv 3) pe_int (nomark _))))) (pss_cons (ps_expr (pe_bm PySem.F.plainAttrs_list PySem.F.slot_list_append PySem.F.type_list_append mt_append (pv 1) (pa_cons (pe_tup (pa_cons (pv 2) (pa_cons (pv 3) (pa_cons (pe_ix ix_list (pe_fld (pv 0) rfl) (pv 2) (fun _ _ => rfl)) pa_nil)))) pa_nil)))
      (pss_cons (ps_aug (i := 2) sc__crossings.nd rfl (Or.inl rfl) pe_int ip_sub)
      (pss_one (ps_aug (i := 3) sc__crossings.nd rfl (Or.inl rfl) (pe_op op_add (pe_ix ix_list (pe_fld (pv 0) rfl) (pv 2) (fun _ _ => rfl)) pe_int) ip_sub)))))
      (pss_cons (ps_if (pt_cmpR op_gt (pv 3) pe_int (nomark _)) (pss_one (ps_expr (pe_bm PySem.F.plainAttrs_list PySem.F.slot_list_append PySem.F.type_list_append mt_append (pv 1) (pa_cons (pe_tup (pa_cons (pv 2) (pa_cons (pv 3) (pa_cons (pe_ix ix_list (pe_fld (pv 0) rfl) (pv 2) (fun _ _ => rfl)) pa_nil)))) pa_nil)))) pss_nil)
      (pss_one (ps_ret (pv 1)))))))), ?_⟩
    have hcl : (ns.map V.int).length = ns.length := List.length_map ..
    refine ⟨Nat.zero_le _, fun d hd0 => ?_⟩
    have sm0 := Same.new (o := .lst []) hd0
    repeat first | refine ⟨_, rfl, ?_⟩ | refine ⟨_, _, rfl, rfl, ?_⟩ | refine ⟨rfl, ?_⟩ | refine ⟨_, _, rfl, ?_⟩ | refine ⟨_, _, _, rfl, ?_⟩
    refine ⟨p, C, dx, _, _, rfl, sm0 _ _ hp, T.cl, T.nW, tf_W _ _ _ _, lw, _, rfl, .inl (SqL.of (sm0 _ _ hL.w)), ?_⟩
    repeat first | refine ⟨_, rfl, ?_⟩ | refine ⟨_, _, rfl, rfl, ?_⟩ | refine ⟨rfl, ?_⟩ | refine ⟨_, _, rfl, ?_⟩ | refine ⟨_, _, _, rfl, ?_⟩
    refine ⟨p, C, dx, _, _, rfl, sm0 _ _ hp, T.cl, T.nL, tf_L _ _ _ _, ?_⟩
    have hat : ∀ {b : Nat}, b ≤ ns.length → atI ((cs (nsOf ns) m ns.length).map V.int) (b : Int) = some (.int (csN ns m b)) := fun {b} hb => atI_nat (getD_at (by rw [cs_len]; omega))
    refine ⟨fun b σ G => ∃ (r : Int) (rs : List V) (pd : List (Nat × Int)), σ = [some (.ref p), some (.ref d), some (.int (b : Int)), some (.int r)] ∧ Same H G ∧ G d = some (.lst rs) ∧ AllAt (CrAt ns m G) rs pd ∧ pd ++ crossF (nsOf ns) b r = crs ns m ∧ b ≤ ns.length ∧ pd.length + b ≤ ns.length,
      ⟨ns.length, m, [], [], by rw [hcl]; rfl, sm0, upd_same, AllAt.nil, rfl, Nat.le_refl _, by simp⟩, ?_⟩
    rintro b σ G ⟨r, rs2, pd, rfl, sm, eD, hA, hE, hb, hpl⟩
    have more : ∀ (a : Addr), G a = none → ∀ G2, G2 = upd (upd G a (.tup [.int (b : Int), .int r, .int (csN ns m b)])) d (.lst (rs2 ++ [.ref a])) → Same H G2 ∧ G2 d = some (.lst (rs2 ++ [.ref a])) ∧ AllAt (CrAt ns m G2) (rs2 ++ [.ref a]) (pd ++ [(b, r)]) := fun a ha G2 e => by
      subst e
      have eD2 := new_past (o := .tup [.int (b : Int), .int r, .int (csN ns m b)]) ha eD
      exact ⟨Same.set (same_more sm ha) hd0, upd_same, ((hA.mono (CrAt.same (Same.new ha))).mono (CrAt.lst eD2)).push (tup_stay eD2 upd_same)⟩
    have fin : crossF (nsOf ns) b r = [] → Q (.ref d) G := fun z => by
      rw [z, List.append_nil] at hE
      exact q G d rs2 sm hd0 eD (hE ▸ hA)
    have hrl := hA.1
    refine ⟨_, rfl, _, _, rfl, rfl, _, rfl, ite2 (fun h0 => ?_) (fun h0 => ?_)⟩
    · have h0 := of_decide_eq_true h0
      refine ⟨_, rfl, _, _, rfl, rfl, _, rfl, ite2 (fun h1 => ?_) (fun h1 => ?_)⟩
      · have h1 : 0 < r := of_decide_eq_true h1
        match b, hE, hb, hpl, more, h0 with
        | b + 1, hE, hb, hpl, more, h0 =>
        refine ⟨fun σ' H2 => _, fun _ _ h => ⟨b, Nat.lt_succ_self b, h⟩, ?_⟩
        refine ⟨_, rfl, .inl ⟨rfl, _, SqL.of eD⟩, _, rfl, _, rfl, _, rfl, p, C, dx, _, _, rfl, sm _ _ hp, T.cl, T.nC, tf_C _ _ _ _, _, rfl, lc, _, _, _, rfl, rfl, SqL.of (sm _ _ hL.c), hat (by omega), (by show 3 ≤ sizeLine; decide), fun a ha => ?_⟩
        have eD2 := new_past (o := .tup [.int ((b + 1 : Nat) : Int), .int r, .int (csN ns m (b + 1))]) ha eD
        refine ⟨d, rs2, _, rfl, rfl, eD2, by rw [hrl, sizeLine_eq]; omega, ?_⟩
        obtain ⟨m1, m2, m3⟩ := more a ha _ rfl
        refine ⟨_, rfl, _, _, rfl, rfl, ?_⟩
        have e1 : ((b + 1 : Nat) : Int) - 1 = (b : Int) := by omega
        refine ⟨_, rfl, _, rfl, p, C, dx, _, _, rfl, m1 _ _ hp, T.cl, T.nW, tf_W _ _ _ _, _, rfl, lw, _, _, _, rfl, rfl, SqL.of (m1 _ _ hL.w), (by show atI (ns.map V.int) (((b + 1 : Nat) : Int) - 1) = _; rw [e1]; exact atI_nat (nsOf_at (by omega))), _, _, rfl, rfl, _, _, rfl, rfl, ?_⟩
        refine ⟨r - (nsOf ns b + 1), rs2 ++ [.ref a], pd ++ [(b + 1, r)], ?_, m1, m2, m3, ?_, by omega, ?_⟩
        · show [_, _, some (V.int (((b + 1 : Nat) : Int) - 1)), _] = _
          rw [e1]
        · rw [← hE, List.append_assoc, crossF_yes h1]
          rfl
        · rw [List.length_append]
          show pd.length + 1 + b ≤ _
          omega
      · have h1 : ¬ 0 < r := of_decide_eq_false (Bool.eq_false_iff.mpr h1)
        refine iteF (A := True) ⟨_, rfl, _, _, rfl, rfl, _, congrArg V.bl (decide_eq_false h1), iteF (A := True) ⟨_, rfl, fin (crossF_no h1)⟩⟩
    · have h0 := of_decide_eq_false (Bool.eq_false_iff.mpr h0)
      obtain rfl : b = 0 := by omega
      refine iteF ⟨_, rfl, _, _, rfl, rfl, _, rfl, ite2 (fun h1 => ?_) (fun h1 => ?_)⟩
      · have h1 : 0 < r := of_decide_eq_true h1
        refine ⟨_, rfl, .inl ⟨rfl, _, SqL.of eD⟩, _, rfl, _, rfl, _, rfl, p, C, dx, _, _, rfl, sm _ _ hp, T.cl, T.nC, tf_C _ _ _ _, _, rfl, lc, _, _, _, rfl, rfl, SqL.of (sm _ _ hL.c), hat (by omega), (by show 3 ≤ sizeLine; decide), fun a ha => ?_⟩
        have eD2 := new_past (o := .tup [.int ((0 : Nat) : Int), .int r, .int (csN ns m 0)]) ha eD
        refine ⟨d, rs2, _, rfl, rfl, eD2, by rw [hrl, sizeLine_eq]; omega, ?_⟩
        obtain ⟨m1, m2, m3⟩ := more a ha _ rfl
        refine ⟨_, rfl, q _ d _ m1 hd0 m2 ?_⟩
        rw [crossF_zero h1] at hE
        exact hE ▸ m3
      · have h1 : ¬ 0 < r := of_decide_eq_false (Bool.eq_false_iff.mpr h1)
        exact ⟨_, rfl, fin (crossF_no h1)⟩
end
section
variable {P : Program} {w : World} {K : PySem.W.Frag} {mg : Str → Option Value} {base : Heap}
theorem ok_ranges {C : Addr} (S : Stands K mg "_ranges" s__ranges) (B : Blt mg) (D__crossings : Def P w K mg base CX0 1 "_crossings" s__crossings ["table"] (spCross C)) : Def P w K mg base CX0 2 "_ranges" s__ranges ["table", "limit"] (spRanges P w K mg base C) := by
  obtain ⟨f, fd, F, hm⟩ := S
  refine ⟨f, fd, F, hm, okG0 F sc__ranges (fun vs H Q E h => ?_) (fun cdv A outer s H vs Q E hg hr h => ?_)⟩
  · obtain ⟨H0, p, g, m, ns, val, lim, fn, rfl, _⟩ := h
    rfl
  · obtain ⟨H0, p, g, m, ns, val, lim, fn, rfl, V_limit, tt, hF, hm0, hm1, hn, hlim, hfn, q⟩ := h
    refine ⟨_, (pss_cons (ps_set (i := 2) sc__ranges.nd rfl (Or.inl rfl) (pe_lst pa_nil))
      (pss_cons (ps_for PassesOwn.never rfl (pi_list (pe_callG D__crossings hg (hr.mono (by decide)) (by rfl) pass0 (fun _ _ _ _ _ _ us hl => match us, hl with | [_], _ => rfl) (pa_cons (pv 0) pa_nil))) (pg_name (i := 3) sc__ranges.nd rfl (Or.inl rfl)) (pss_cons (ps_while PassesOwn.never (PW.pt (pw_and (pt_truth (pv 2) (by intro _; rfl)) (pw_and1 (pt_cmpR op_ge (pe_callV (i := 1) V_limit hg (hr.mono (by decide)) (by rfl) (by first | exact Or.inl rfl | exact Or.inr (Or.inl rfl) | exact Or.inr (Or.inr rfl)) pass0 (pa_cons (pv 3) (pa_cons (pe_ix ix_tup (pe_ix ix_list (pv 2) (pe_un un_neg pe_int) (fun _ _ => rfl)) pe_int (fun _ _ => rfl)) pa_nil))) (pe_ix ix_tup (pe_ix ix_list (pv 2) (pe_un un_neg pe_int) (fun _ _ => rfl)) pe_int (fun _ _ => rfl)) (nomark _))))) (pss_one (ps_expr (pe_bm0 PySem.F.plainAttrs_list PySem.F.slot_list_pop PySem.F.type_list_pop mt_pop (pv 2)))))
      (pss_cons (ps_set (i := 6) sc__ranges.nd rfl (Or.inl rfl) (pe_ifExp (pt_truth (pv 2) (by intro _; rfl)) (pe_callV (i := 1) V_limit hg (hr.mono (by decide)) (by rfl) (by first | exact Or.inl rfl | exact Or.inr (Or.inl rfl) | exact Or.inr (Or.inr rfl)) pass0 (pa_cons (pv 3) (pa_cons (pe_ix ix_tup (pe_ix ix_list (pv 2) (pe_un un_neg pe_int) (fun _ _ => rfl)) pe_int (fun _ _ => rfl)) pa_nil))) (pe_ix ix_tup (pv 3) pe_int (fun _ _ => rfl))))
      (pss_one (ps_if (pt_cmpR op_gt (pv 6) pe_int (nomark _)) (pss_one (ps_expr (pe_bm PySem.F.plainAttrs_list PySem.F.slot_list_append PySem.F.type_list_append mt_append (pv 2) (pa_cons (pe_tup (pa_cons (pv 6) (pa_cons (pv 3) pa_nil))) pa_nil)))) pss_nil)))))
      (pss_cons (ps_set (i := 4) sc__ranges.nd rfl (Or.inl rfl) (pe_lst pa_nil))
      (pss_cons (ps_set (i := 5) sc__ranges.nd rfl (Or.inl rfl) pe_int)
      (pss_cons (ps_for PassesOwn.never rfl (pi_list (pe_revL (pv 2))) (pg_tup rfl (pgs_cons (pg_name (i := 6) sc__ranges.nd rfl (Or.inl rfl)) (pgs_cons (pg_name (i := 3) sc__ranges.nd rfl (Or.inl rfl)) pgs_nil))) (pss_cons (ps_expr (pe_bm PySem.F.plainAttrs_list PySem.F.slot_list_append PySem.F.type_list_append mt_append (pv 4) (pa_cons (pe_tup (pa_cons (pv 5) (pa_cons (pv 6) (pa_cons (pe_ix ix_tup (pv 3) pe_int (fun _ _ => rfl)) pa_nil)))) pa_nil)))
      (pss_one (ps_set (i := 5) sc__ranges.nd rfl (Or.inl rfl) (pe_op op_add (pv 6) pe_int)))))
      (pss_one (ps_ret (pe_callTy call_tuple_of (by rfl) B.tuple PyProof.Rows.boot_tuple (pa_cons (pv 4) pa_nil))))))))), ?_⟩
    refine ⟨Nat.zero_le _, fun kd hkd => ?_⟩
    have sk := Same.new (o := .lst []) hkd
    repeat first | refine ⟨_, rfl, ?_⟩ | refine ⟨_, _, rfl, rfl, ?_⟩ | refine ⟨rfl, ?_⟩ | refine ⟨_, _, rfl, ?_⟩ | refine ⟨_, _, _, rfl, ?_⟩
    refine ⟨H0, p, m, ns, rfl, tt.more sk, hF, hm0, hm1, hn, fun H1 cl crs_ s1 hcl eC hA => ?_⟩
    have ncl : cl ≠ kd := fun e => by
      rw [e, upd_same] at hcl
      cases hcl
    have eK1 : H1 kd = some (.lst []) := s1 _ _ upd_same
    have sH1 := same_tr sk s1
    refine ⟨cl, rfl, ⟨_, SqL.of eC⟩, ?_⟩
    refine for_list (K := K) (a := cl) (xs := crs_) (fun i σ G => ∃ (kr : List V) (kept : List (Int × (Nat × Int))) (y3 y6 : Option V), σ = [some (.ref p), some (.ref g), some (.ref kd), y3, none, none, y6] ∧ Same H G ∧ G kd = some (.lst kr) ∧ G cl = some (.lst crs_) ∧ AllAt (CrAt ns m G) crs_ (crs ns m) ∧ AllAt (KpAt ns m G) kr kept.reverse ∧ kept.length ≤ i ∧ (i = 0 → kept = []) ∧ (0 < i → EnvOk val m ((crs ns m).take i) kept))
      ⟨[], [], none, none, rfl, sH1, eK1, eC, hA, AllAt.nil, Nat.le_refl _, fun _ => rfl, fun h => absurd h (Nat.lt_irrefl _)⟩ (fun i σ G _ ⟨_, _, _, _, _, _, _, e, _⟩ => SqL.of e) ?_ ?_
    · rintro i x σ G hx ⟨kr, kept, y3, y6, rfl, sG, eK, eC2, hA2, hKp, hki, hz, hE⟩
      obtain ⟨c, a, rfl, hc, hCa⟩ := hA2.get hx
      have hcm : c ∈ crs ns m := List.mem_of_getElem? hc
      obtain ⟨c1, c2, c3⟩ := crs_le hF hcm
      have hsub : ∀ x ∈ (crs ns m).take i, x ∈ crs ns m := fun x hx => List.mem_of_mem_take hx
      have hroom : ∀ x ∈ (crs ns m).take i, c.1 < x.1 ∧ c.2 < x.2 := fun x hx => by
        have pw := crs_pw hF
        have e1 : crs ns m = (crs ns m).take i ++ c :: (crs ns m).drop (i + 1) := by
          have hi := (List.getElem?_eq_some_iff.mp hc).1
          have : (crs ns m).drop i = c :: (crs ns m).drop (i + 1) := by
            rw [List.drop_eq_getElem_cons hi]
            rw [List.getElem?_eq_getElem hi] at hc
            rw [Option.some.inj hc]
          rw [← this, List.take_append_drop]
        rw [e1] at pw
        exact (List.pairwise_append.mp pw).2.2 x hx c (List.mem_cons_self ..)
      have hmk : ∀ x ∈ kept, x.2 ∈ (crs ns m).take i := fun x hx => by
        by_cases h0 : i = 0
        · rw [hz h0] at hx
          cases hx
        · exact ((hE (by omega)).mem x hx).1
      refine ⟨fun n σ' G' => ∃ (d k : List (Int × (Nat × Int))) (kr2 : List V), σ' = [some (.ref p), some (.ref g), some (.ref kd), some (.ref a), none, none, y6] ∧ n = k.length ∧ kept = d ++ k ∧ (∀ x ∈ d, x.1 ≤ lim ns m c x.2) ∧ Same H G' ∧ G' kd = some (.lst kr2) ∧ G' cl = some (.lst crs_) ∧ AllAt (CrAt ns m G') crs_ (crs ns m) ∧ CrAt ns m G' a c ∧ AllAt (KpAt ns m G') kr2 k.reverse,
        ⟨kept.length, [], kept, kr, rfl, rfl, rfl, (fun _ z => nomatch z), sG, eK, eC2, hA2, hCa, hKp⟩, ?_⟩
      rintro n σ' G' ⟨d, k, kr2, rfl, rfl, hdk, hd, sG2, eK2, eC3, hA3, hCa3, hKp3⟩
      have hlen3 := hKp3.1
      have hkm : ∀ y ∈ k, y ∈ kept := fun y hy => by rw [hdk]; exact List.mem_append_right _ hy
      have spl : ∀ (y : Int × (Nat × Int)) (k' : List (Int × (Nat × Int))), k = y :: k' → ∃ kr3 ya yb, kr2 = kr3 ++ [.ref ya] ∧ AllAt (KpAt ns m G') kr3 k'.reverse ∧ G' ya = some (.tup [.int y.1, .ref yb]) ∧ CrAt ns m G' yb y.2 := fun y k' e => by
        rw [e, List.reverse_cons] at hKp3
        obtain ⟨kr3, ya, h1, h2, yb, h3, h4⟩ := hKp3.unpush
        exact ⟨kr3, ya, yb, h1, h2, h3, h4⟩
      have limit_ : ∀ (y : Int × (Nat × Int)) (k' : List (Int × (Nat × Int))), k = y :: k' → c.2 < y.2.2 ∧ y.2.2 ≤ 1000000000 := fun y k' e => by
        have h1 := hmk y (hkm y (by rw [e]; exact List.mem_cons_self ..))
        have h2 := crs_le hF (hsub _ h1)
        exact ⟨(hroom _ h1).2, by omega⟩
      have hkl : k.length ≤ kept.length := by rw [hdk, List.length_append]; omega
      -- high, then what is kept
      have push : ∀ (h : Int), 0 < h → EnvOk val m ((crs ns m).take (i + 1)) ((h, c) :: k) → ∀ (t : Addr) G2, G' t = none → G2 = upd (upd G' t (.tup [.int h, .ref a])) kd (.lst (kr2 ++ [.ref t])) →
          ∃ (kr : List V) (kept : List (Int × (Nat × Int))) (y3 y6 : Option V), [some (V.ref p), some (.ref g), some (.ref kd), some (.ref a), none, none, some (.int h)] = [some (V.ref p), some (.ref g), some (.ref kd), y3, none, none, y6] ∧ Same H G2 ∧ G2 kd = some (.lst kr) ∧ G2 cl = some (.lst crs_) ∧ AllAt (CrAt ns m G2) crs_ (crs ns m) ∧ AllAt (KpAt ns m G2) kr kept.reverse ∧ kept.length ≤ i + 1 ∧ (i + 1 = 0 → kept = []) ∧ (0 < i + 1 → EnvOk val m ((crs ns m).take (i + 1)) kept) := fun h h0 hE2 t G2 ht e2 => by
        subst e2
        have n1 := Same.new (o := .tup [.int h, .ref a]) ht
        have eK4 := n1 _ _ eK2
        refine ⟨kr2 ++ [.ref t], (h, c) :: k, _, _, rfl, Same.set (same_tr sG2 n1) hkd, upd_same, by rw [upd_ne ncl]; exact n1 _ _ eC3, (hA3.mono (CrAt.same n1)).mono (CrAt.lst eK4), ?_, by show k.length + 1 ≤ i + 1; omega, (fun z => by omega), fun _ => hE2⟩
        rw [List.reverse_cons]
        exact ((hKp3.mono (KpAt.same n1)).mono (KpAt.lst eK4)).push ⟨a, tup_stay eK4 upd_same, tup_stay eK4 (n1 _ _ hCa3)⟩
      match k, hdk, hkm, spl, limit_, hKp3, hlen3, hkl, push with
      | [], hdk, hkm, spl, limit_, hKp3, hlen3, hkl, push =>
        obtain rfl : kr2 = [] := List.eq_nil_of_length_eq_zero hlen3
        rw [List.append_nil] at hdk
        obtain rfl : i = 0 := by
          by_cases h0 : i = 0
          · exact h0
          · exact ((hE (by omega)).rest (d := d) hm0 hlim hsub hcm hroom (fun x hx => hd x (by rw [← hdk]; exact hx))).elim
        have hcm2 : c = (ns.length, m) := by
          rw [crs_head hm0] at hc
          exact (Option.some.inj hc).symm
        have hc2 : c.2 = m := by rw [hcm2]
        refine ⟨_, rfl, false, .inl ⟨_, SqL.of eK2, rfl⟩, iteF (A := True) ?_⟩
        refine ⟨_, rfl, false, .inl ⟨_, SqL.of eK2, rfl⟩, iteF (A := True) ?_⟩
        refine ⟨_, rfl, a, _, _, .int c.2, rfl, rfl, SqT.of hCa3, rfl, ?_⟩
        refine ⟨_, rfl, _, _, rfl, rfl, _, rfl, ite2 (fun h => ?_) (fun h => ?_)⟩
        · refine ⟨_, rfl, .inl ⟨rfl, _, SqL.of eK2⟩, _, rfl, _, rfl, (by show 2 ≤ sizeLine; decide), fun t ht => ?_⟩
          refine ⟨kd, _, _, rfl, rfl, new_past ht eK2, (by show 0 < sizeLine; decide), ?_⟩
          refine push c.2 c2 ?_ t _ ht rfl
          have e1 : (crs ns m).take (0 + 1) = [c] := by
            have hi := (List.getElem?_eq_some_iff.mp hc).1
            rw [List.take_succ, hc]
            rfl
          rw [e1]
          exact EnvOk.single (by omega) hc2
        · have h := of_decide_eq_false (Bool.eq_false_iff.mpr h)
          exact absurd c2 h
      | y :: k', hdk, hkm, spl, limit_, hKp3, hlen3, hkl, push =>
        obtain ⟨kr3, ya, yb, rfl, hK4, hya, hyb⟩ := spl y k' rfl
        obtain ⟨l1, l2⟩ := limit_ y k' rfl
        have i0 : 0 < i := by
          by_cases h0 : i = 0
          · have := hz h0
            rw [hdk] at this
            simp at this
          · omega
        have hne : decide ((kr3 ++ [V.ref ya]).length = 0) = false := by simp
        refine ⟨_, rfl, true, .inl ⟨_, SqL.of eK2, by simp⟩, iteT (B := True) ?_⟩
        refine ⟨rfl, _, rfl, _, rfl, _, rfl, kd, _, _, .ref ya, rfl, rfl, SqL.of eK2, atI_last _ _, ya, _, _, .ref yb, rfl, rfl, SqT.of hya, rfl, ns, m, c, y.2, a, yb, rfl, hCa3, hyb, l1, c2, l2, ?_⟩
        refine ⟨_, rfl, _, rfl, kd, _, _, .ref ya, rfl, rfl, SqL.of eK2, atI_last _ _, ya, _, _, .int y.1, rfl, rfl, SqT.of hya, rfl, _, _, rfl, rfl, _, rfl, ite2 (fun h => ?_) (fun h => ?_)⟩
        · have h : y.1 ≤ lim ns m c y.2 := of_decide_eq_true h
          refine ⟨fun σ' H2 => _, fun _ _ h => ⟨k'.length, Nat.lt_succ_self _, h⟩, ?_⟩
          refine ⟨_, rfl, .inl ⟨rfl, _, SqL.of eK2⟩, kd, _, .ref ya, rfl, rfl, eK2, ?_, ?_⟩
          · simp
          · refine ⟨d ++ [y], k', kr3, rfl, rfl, by rw [hdk]; simp, fun x hx => ?_, Same.set sG2 hkd, by rw [upd_same]; simp, by rw [upd_ne ncl]; exact eC3, hA3.mono (CrAt.lst eK2), tup_stay eK2 hCa3, hK4.mono (KpAt.lst eK2)⟩
            rcases List.mem_append.mp hx with hx | hx
            · exact hd x hx
            · obtain rfl := List.mem_singleton.mp hx
              exact h
        · have h : ¬ y.1 ≤ lim ns m c y.2 := of_decide_eq_false (Bool.eq_false_iff.mpr h)
          have hst := (hE i0).step hlim hsub hcm hroom hdk hd (by omega)
          have e1 : (crs ns m).take (i + 1) = (crs ns m).take i ++ [c] := by rw [List.take_succ, hc]; rfl
          rw [← e1] at hst
          refine ⟨_, rfl, true, .inl ⟨_, SqL.of eK2, by simp⟩, iteT (B := True) ?_⟩
          refine ⟨rfl, _, rfl, _, rfl, _, rfl, kd, _, _, .ref ya, rfl, rfl, SqL.of eK2, atI_last _ _, ya, _, _, .ref yb, rfl, rfl, SqT.of hya, rfl, ns, m, c, y.2, a, yb, rfl, hCa3, hyb, l1, c2, l2, ?_⟩
          refine ⟨_, rfl, _, _, rfl, rfl, _, rfl, ite2 (fun h5 => ?_) (fun h5 => ?_)⟩
          · have h5 : 0 < lim ns m c y.2 := of_decide_eq_true h5
            rw [if_pos h5] at hst
            refine ⟨_, rfl, .inl ⟨rfl, _, SqL.of eK2⟩, _, rfl, _, rfl, (by show 2 ≤ sizeLine; decide), fun t ht => ?_⟩
            refine ⟨kd, _, _, rfl, rfl, new_past ht eK2, ?_, ?_⟩
            · have hkl : k'.length + 1 ≤ kept.length := hkl
              have hi := (List.getElem?_eq_some_iff.mp hc).1
              have hcl2 : (crs ns m).length ≤ ns.length + 1 := crossF_len
              rw [hlen3, sizeLine_eq]
              show (y :: k').reverse.length < _
              rw [List.length_reverse]
              show k'.length + 1 < _
              omega
            · exact push _ h5 hst t _ ht rfl
          · have h5 : ¬ 0 < lim ns m c y.2 := of_decide_eq_false (Bool.eq_false_iff.mpr h5)
            rw [if_neg h5] at hst
            exact ⟨_, y :: k', _, _, rfl, sG2, eK2, eC3, hA3, hKp3, by have hkl : k'.length + 1 ≤ kept.length := hkl; show k'.length + 1 ≤ i + 1; omega, (fun z => by omega), fun _ => hst⟩
    · rintro σ G ⟨kr, kept, y3, y6, rfl, sG, eK, eC2, hA2, hKp, hki, hz, hE⟩
      have hcl2 : (crs ns m).length ≤ ns.length + 1 := crossF_len
      have hpos : 0 < (crs ns m).length := by
        have := crs_head (ns := ns) hm0
        exact (List.getElem?_eq_some_iff.mp this).1
      have hkl : kept.length ≤ 2001 := by have := hA.1; omega
      have hE2 := hE (by rw [hA.1]; exact hpos)
      rw [hA.1, List.take_length] at hE2
      refine ⟨Nat.zero_le _, fun rl hrl => ?_⟩
      have n1 := Same.new (o := .lst []) hrl
      refine ⟨_, rfl, kd, _, rfl, SqL.of (n1 _ _ eK), fun vl hvl => ?_⟩
      have n2 := Same.new (o := .lst kr.reverse) hvl
      have eV : upd (upd G rl (.lst [])) vl (.lst kr.reverse) vl = some (.lst kr.reverse) := upd_same
      have eR := n2 _ _ (upd_same (H := G) (a := rl) (o := .lst []))
      have hV : AllAt (KpAt ns m (upd (upd G rl (.lst [])) vl (.lst kr.reverse))) kr.reverse kept := by
        have := (hKp.mono (KpAt.same (same_tr n1 n2))).rev
        rwa [List.reverse_reverse] at this
      have nvr : vl ≠ rl := fun e => by
        rw [e, upd_same] at hvl
        cases hvl
      have s2 := same_tr sG (same_tr n1 n2)
      have hGr : G rl = none := hrl
      generalize upd (upd G rl (.lst [])) vl (.lst kr.reverse) = G2 at eV eR hV s2 ⊢
      have hHr : H rl = none := same_free sG hGr
      refine ⟨vl, rfl, ⟨_, SqL.of eV⟩, ?_⟩
      refine for_list (K := K) (a := vl) (xs := kr.reverse) (fun j σ G3 => ∃ (rr : List V) (y3 y6 : Option V), σ = [some (.ref p), some (.ref g), some (.ref kd), y3, some (.ref rl), some (.int (lowAfter 1 (kept.take j))), y6] ∧ Same H G3 ∧ G3 vl = some (.lst kr.reverse) ∧ AllAt (KpAt ns m G3) kr.reverse kept ∧ G3 rl = some (.lst rr) ∧ AllAt (TrAt G3) rr (rgs 1 (kept.take j)))
        ⟨[], _, _, rfl, s2, eV, hV, eR, AllAt.nil⟩ (fun i σ G _ ⟨_, _, _, _, _, e, _⟩ => SqL.of e) ?_ ?_
      · rintro j x σ G3 hx ⟨rr, y3', y6', rfl, s3, eV3, hV3, eR3, hT3⟩
        obtain ⟨e, xa, rfl, he, b, h1, h2⟩ := hV3.get hx
        have hj := (List.getElem?_eq_some_iff.mp he).1
        refine ⟨xa, _, rfl, SqT.of h1, rfl, _, _, rfl, _, _, rfl, rfl, ?_⟩
        refine ⟨_, rfl, .inl ⟨rfl, _, SqL.of eR3⟩, _, rfl, _, rfl, _, rfl, b, _, _, .int (e.2.1 : Int), rfl, rfl, SqT.of h2, rfl, (by show 3 ≤ sizeLine; decide), fun t ht => ?_⟩
        have n3 := Same.new (o := .tup [.int (lowAfter 1 (kept.take j)), .int e.1, .int (e.2.1 : Int)]) ht
        have eR4 := n3 _ _ eR3
        refine ⟨rl, rr, _, rfl, rfl, eR4, ?_, ?_⟩
        · rw [hT3.1, rgs_len, List.length_take, sizeLine_eq]
          omega
        refine ⟨_, rfl, _, _, rfl, rfl, ?_⟩
        refine ⟨rr ++ [.ref t], some (.ref b), some (.int e.1), ?_, Same.set (same_tr s3 n3) hHr, by rw [upd_ne nvr]; exact n3 _ _ eV3, (hV3.mono (KpAt.same n3)).mono (KpAt.lst eR4), upd_same, ?_⟩
        · rw [take_succ he, lowAfter_app]
          rfl
        · rw [take_succ he, rgs_app]
          exact ((hT3.mono (TrAt.same n3)).mono (TrAt.lst eR4)).push (tup_stay eR4 upd_same)
      · rintro σ G3 ⟨rr, y3', y6', rfl, s3, eV3, hV3, eR3, hT3⟩
        rw [hV3.1, List.take_length] at hT3
        refine ⟨_, rfl, rl, _, rfl, .inl ⟨SqL.of eR3, fun t ht => ?_⟩⟩
        have n4 := Same.new (o := .tup rr) ht
        exact q _ t rr _ (same_tr s3 n4) upd_same (hT3.mono (TrAt.same n4)) (ranges_of hE2 hfn)
end
section
variable {P : Program} {w : World} {K : PySem.W.Frag} {mg : Str → Option Value} {base : Heap}
theorem ok_climit (S : Stands K mg "_closing_limit" s__closing_limit) (B : Blt mg) : Def P w K mg base CX0 1 "_closing_limit" s__closing_limit ["crossing", "later"] (spLim limC) := by
  obtain ⟨f, fd, F, hm⟩ := S
  refine ⟨f, fd, F, hm, okG0 F sc__closing_limit (fun vs H Q E h => ?_) (fun cdv A outer s H vs Q E hg hr h => ?_)⟩
  · obtain ⟨ns, m, c, x, a, b, rfl, _⟩ := h
    rfl
  · obtain ⟨ns, m, c, x, a, b, rfl, ha, hb, h1, h2, h3, q⟩ := h
    refine ⟨_, (pss_cons (ps_asg (pv 0) (pg_tup rfl (pgs_cons (pg_name (i := 3) sc__closing_limit.nd rfl (Or.inl rfl)) (pgs_cons (pg_name (i := 4) sc__closing_limit.nd rfl (Or.inl rfl)) (pgs_cons (pg_name (i := 5) sc__closing_limit.nd rfl (Or.inl rfl)) pgs_nil)))))
      (pss_cons (ps_asg (pv 1) (pg_tup rfl (pgs_cons (pg_name (i := 3) sc__closing_limit.nd rfl (Or.inl rfl)) (pgs_cons (pg_name (i := 6) sc__closing_limit.nd rfl (Or.inl rfl)) (pgs_cons (pg_name (i := 7) sc__closing_limit.nd rfl (Or.inl rfl)) pgs_nil)))))
      (pss_cons (ps_set (i := 2) sc__closing_limit.nd rfl (Or.inl rfl) (pe_op op_sub (pe_op op_sub (pe_op op_add (pv 7) (pe_op op_pow (pv 6) pe_int)) (pv 5)) (pe_op op_pow (pv 4) pe_int)))
      (pss_one (ps_ret (pe_callB (call_min2 rfl) (by rfl) B.min PyProof.Rows.boot_min (pa_cons (pv 4) (pa_cons (pe_op op_fdivW (pe_op op_sub (pv 2) pe_int) (pe_op op_mul pe_int (pe_op op_sub (pv 6) (pv 4)))) pa_nil)))))))), ?_⟩
    have p64 : ∀ {i : Int}, 0 < i → i ≤ 1000000000 → i.natAbs < 2 ^ 64 := fun h1 h2 => by omega
    refine ⟨_, rfl, a, _, rfl, SqT.of ha, rfl, _, _, rfl, _, _, rfl, _, _, rfl, rfl, ?_⟩
    refine ⟨_, rfl, b, _, rfl, SqT.of hb, rfl, _, _, rfl, _, _, rfl, _, _, rfl, rfl, ?_⟩
    refine ⟨_, rfl, _, rfl, _, _, rfl, rfl, ⟨by decide, by decide, p64 (by omega) h3⟩, _, _, rfl, rfl, _, rfl, _, _, rfl, rfl, _, rfl, _, _, rfl, rfl, ⟨by decide, by decide, p64 h2 (by omega)⟩, _, _, rfl, rfl, ?_⟩
    refine ⟨_, rfl, _, rfl, _, _, rfl, rfl, _, rfl, _, rfl, _, _, rfl, rfl, _, _, rfl, rfl, .inl ⟨by decide, by decide⟩, _, _, rfl, rfl, ⟨by show (0 : Int) < _; omega, log_lt (by omega) (by omega)⟩, _, _, rfl, ?_⟩
    exact q
end
section
variable {P : Program} {w : World} {K : PySem.W.Frag} {mg : Str → Option Value} {base : Heap}
theorem ok_cranges {C : Addr} (S : Stands K mg "closing_ranges" s_closing_ranges) (B : Blt mg) (D__ranges : Def P w K mg base CX0 2 "_ranges" s__ranges ["table", "limit"] (spRanges P w K mg base C)) (D__closing_limit : Def P w K mg base CX0 1 "_closing_limit" s__closing_limit ["crossing", "later"] (spLim limC)) : Def P w K mg base CX0 3 "closing_ranges" s_closing_ranges ["table"] (spRg C startC) := by
  obtain ⟨f, fd, F, hm⟩ := S
  obtain ⟨g, hmg, V_g⟩ := D__closing_limit.val (fun _ _ _ _ _ _ us hl => match us, hl with | [_, _], _ => rfl)
  refine ⟨f, fd, F, hm, okG0 F sc_closing_ranges (fun vs H Q E h => ?_) (fun cdv A outer s H vs Q E hg hr h => ?_)⟩
  · obtain ⟨H0, p, m, ns, rfl, _⟩ := h
    rfl
  · obtain ⟨H0, p, m, ns, rfl, tt, hF, hm0, hm1, hn, q⟩ := h
    refine ⟨_, (pss_one (ps_ret (pe_callG D__ranges hg (hr.mono (by decide)) (by rfl) pass0 (fun _ _ _ _ _ _ us hl => match us, hl with | [_, _], _ => rfl) (pa_cons (pv 0) (pa_cons (pe_glob (v := .ref g) (by rfl) hmg rfl) pa_nil))))), ?_⟩
    refine ⟨_, rfl, H0, p, g, m, ns, vC ns m, limC, startC ns m, rfl, V_g, tt, hF, hm0, hm1, hn, limC_ok ns m _, fun u h1 h2 x hx => pick_closed hF h1 h2 hx, fun H' t rs R sm et hA hR => ?_⟩
    exact q H' t rs R sm et hA hR
end
section
variable {P : Program} {w : World} {K : PySem.W.Frag} {mg : Str → Option Value} {base : Heap}
theorem ok_olimit (S : Stands K mg "_open_limit" s__open_limit) (B : Blt mg) : Def P w K mg base CX0 1 "_open_limit" s__open_limit ["crossing", "later"] (spLim limO) := by
  obtain ⟨f, fd, F, hm⟩ := S
  refine ⟨f, fd, F, hm, okG0 F sc__open_limit (fun vs H Q E h => ?_) (fun cdv A outer s H vs Q E hg hr h => ?_)⟩
  · obtain ⟨ns, m, c, x, a, b, rfl, _⟩ := h
    rfl
  · obtain ⟨ns, m, c, x, a, b, rfl, ha, hb, h1, h2, h3, q⟩ := h
    refine ⟨_, (pss_cons (ps_asg (pv 0) (pg_tup rfl (pgs_cons (pg_name (i := 2) sc__open_limit.nd rfl (Or.inl rfl)) (pgs_cons (pg_name (i := 3) sc__open_limit.nd rfl (Or.inl rfl)) (pgs_cons (pg_name (i := 4) sc__open_limit.nd rfl (Or.inl rfl)) pgs_nil)))))
      (pss_one (ps_ret (pe_ifExp (pt_cmpR op_lt (pv 4) (pe_ix ix_tup (pv 1) pe_int (fun _ _ => rfl)) (nomark _)) (pv 3) pe_int)))), ?_⟩
    refine ⟨_, rfl, a, _, rfl, SqT.of ha, rfl, _, _, rfl, _, _, rfl, _, _, rfl, rfl, ?_⟩
    refine ⟨_, rfl, _, rfl, b, _, _, .int (csN ns m x.1), rfl, rfl, SqT.of hb, rfl, _, _, rfl, rfl, _, rfl, ite2 (fun h => ?_) (fun h => ?_)⟩
    · have h : csN ns m c.1 < csN ns m x.1 := of_decide_eq_true h
      refine ⟨_, rfl, ?_⟩
      unfold limO at q
      rw [if_pos h] at q
      exact q
    · have h : ¬ csN ns m c.1 < csN ns m x.1 := of_decide_eq_false (Bool.eq_false_iff.mpr h)
      unfold limO at q
      rw [if_neg h] at q
      exact q
end
section
variable {P : Program} {w : World} {K : PySem.W.Frag} {mg : Str → Option Value} {base : Heap}
theorem ok_oranges {C : Addr} (S : Stands K mg "open_ranges" s_open_ranges) (B : Blt mg) (D__ranges : Def P w K mg base CX0 2 "_ranges" s__ranges ["table", "limit"] (spRanges P w K mg base C)) (D__open_limit : Def P w K mg base CX0 1 "_open_limit" s__open_limit ["crossing", "later"] (spLim limO)) : Def P w K mg base CX0 3 "open_ranges" s_open_ranges ["table"] (spRg C startO) := by
  obtain ⟨f, fd, F, hm⟩ := S
  obtain ⟨g, hmg, V_g⟩ := D__open_limit.val (fun _ _ _ _ _ _ us hl => match us, hl with | [_, _], _ => rfl)
  refine ⟨f, fd, F, hm, okG0 F sc_open_ranges (fun vs H Q E h => ?_) (fun cdv A outer s H vs Q E hg hr h => ?_)⟩
  · obtain ⟨H0, p, m, ns, rfl, _⟩ := h
    rfl
  · obtain ⟨H0, p, m, ns, rfl, tt, hF, hm0, hm1, hn, q⟩ := h
    refine ⟨_, (pss_one (ps_ret (pe_callG D__ranges hg (hr.mono (by decide)) (by rfl) pass0 (fun _ _ _ _ _ _ us hl => match us, hl with | [_, _], _ => rfl) (pa_cons (pv 0) (pa_cons (pe_glob (v := .ref g) (by rfl) hmg rfl) pa_nil))))), ?_⟩
    refine ⟨_, rfl, H0, p, g, m, ns, vO ns m, limO, startO ns m, rfl, V_g, tt, hF, hm0, hm1, hn, limO_ok ns m _, fun u h1 h2 x hx => pick_open hF h1 h2 hx, fun H' t rs R sm et hA hR => ?_⟩
    exact q H' t rs R sm et hA hR
end
section
variable {P : Program} {w : World} {K : PySem.W.Frag} {mg : Str → Option Value} {base : Heap}
theorem ok_allstarts {C : Addr} (S : Stands K mg "all_starts" s_all_starts) (B : Blt mg) (D_closing_ranges : Def P w K mg base CX0 3 "closing_ranges" s_closing_ranges ["table"] (spRg C startC)) (D_open_ranges : Def P w K mg base CX0 3 "open_ranges" s_open_ranges ["table"] (spRg C startO)) : Def P w K mg base CX0 4 "all_starts" s_all_starts ["table"] (spAllStarts C) := by
  obtain ⟨f, fd, F, hm⟩ := S
  refine ⟨f, fd, F, hm, okG0 F sc_all_starts (fun vs H Q E h => ?_) (fun cdv A outer s H vs Q E hg hr h => ?_)⟩
  · obtain ⟨H0, p, m, ns, rfl, _⟩ := h
    rfl
  · obtain ⟨H0, p, m, ns, rfl, tt, hF, hm0, hm1, hn, q⟩ := h
    refine ⟨_, (pss_one (ps_ret (pe_callB (cr_sortSet rfl) (by rfl) B.sorted PyProof.Rows.boot_sorted (pa_cons (pe_callTy (cr_setL rfl) (by rfl) B.set PyProof.Rows.boot_set (pa_cons (pe_lc (own := [("_", 1), ("start", 2)]) (g := gTup _ 3 (gCons (gName 1) (gCons (gName 1) (gCons (gName 2) gNil)))) (tt := tYes) rfl sc_all_starts.nd (pi_tup (pe_op op_catB (pe_callG D_closing_ranges hg (hr.mono (by decide)) (by rfl) pass0 (fun _ _ _ _ _ _ us hl => match us, hl with | [_], _ => rfl) (pa_cons (pv 0) pa_nil)) (pe_callG D_open_ranges hg (hr.mono (by decide)) (by rfl) pass0 (fun _ _ _ _ _ _ us hl => match us, hl with | [_], _ => rfl) (pa_cons (pv 0) pa_nil)))) (blkOk_by (own := [("_", 1), ("start", 2)]) (N := ["table", "_", "start"]) (sc := defScope s_all_starts) (by decide +kernel)) (fun _ _ _ _ _ => (pg_tup rfl (pgs_cons (pg_name (i := 1) sc_all_starts.nd rfl (Or.inl rfl)) (pgs_cons (pg_name (i := 1) sc_all_starts.nd rfl (Or.inl rfl)) (pgs_cons (pg_name (i := 2) sc_all_starts.nd rfl (Or.inl rfl)) pgs_nil))))) (fun _ _ _ _ _ => pts_nil) (fun _ _ _ _ _ => (pv 2))) pa_nil)) pa_nil)))), ?_⟩
    refine ⟨_, rfl, H0, p, m, ns, rfl, tt, hF, hm0, hm1, hn, fun H1 t1 rs1 R1 s1 e1 hA1 hR1 => ?_⟩
    refine ⟨_, rfl, H0, p, m, ns, rfl, tt.more s1, hF, hm0, hm1, hn, fun H2 t2 rs2 R2 s2 e2 hA2 hR2 => ?_⟩
    have l1 := hR1.len (f_le := fun u a b => startC_le hF a b)
    have l2 := hR2.len (f_le := fun u a b => startO_le hF a b)
    refine ⟨t1, t2, _, _, rfl, rfl, SqT.of (s2 _ _ e1), SqT.of e2, by rw [hA1.1, hA2.1, sizeLine_eq]; omega, fun H3 c s3 hS => ?_⟩
    have hA : AllAt (TrAt H3) (rs1 ++ rs2) (R1 ++ R2) := (hA1.mono (TrAt.same (same_tr s2 s3))).app (hA2.mono (TrAt.same s3))
    refine ⟨c, rfl, ⟨_, hS⟩, fun D hD => ?_⟩
    refine lc_tup (K := K) (a := c) (xs := rs1 ++ rs2) (fun i G => Same H3 G ∧ G D = some (.lst ((((R1 ++ R2).take i).map fun p => (p.2.2 : Int)).map V.int))) ⟨Same.new hD, upd_same⟩ (fun i G _ h => Same.tup h.1 hS) ?_ ?_
    · rintro i x G hx ⟨sg, eD⟩
      obtain ⟨r, a, rfl, hr2, hP⟩ := hA.get hx
      refine ⟨a, _, rfl, SqT.of (sg _ _ hP), rfl, _, _, rfl, _, _, rfl, _, _, rfl, rfl, rfl, _, rfl, _, eD, ?_, Same.set sg hD, ?_⟩
      · rw [List.length_map, List.length_map, List.length_take, List.length_append, sizeLine_eq]
        omega
      · rw [upd_same, take_succ hr2, List.map_append, List.map_append]
        rfl
    · rintro G ⟨sg, eD⟩
      rw [hA.1, List.take_length] at eD
      refine ⟨D, _, rfl, SqL.of eD, by rw [List.length_map, List.length_append]; omega, fun st G2 hst eS s4 => ?_⟩
      refine ⟨st, _, rfl, eS, by rw [List.length_map, List.length_append]; omega, fun L l hpw hmem hlen G3 hl eL s5 => ?_⟩
      have hall : ∀ k, k ∈ L ↔ ∃ b : Nat, k = (b : Int) ∧ StartAt ns m b := fun k => by
        rw [hmem, List.mem_map]
        constructor
        · rintro ⟨r, hr2, rfl⟩
          refine ⟨r.2.2, rfl, ?_⟩
          rcases List.mem_append.mp hr2 with h | h
          · obtain ⟨a1, a2, a3, a4⟩ := hR1.cov.mem r h
            exact ⟨r.1, a1, by omega, .inl (a4 r.1 (Int.le_refl _) a2).symm⟩
          · obtain ⟨a1, a2, a3, a4⟩ := hR2.cov.mem r h
            exact ⟨r.1, a1, by omega, .inr (a4 r.1 (Int.le_refl _) a2).symm⟩
        · rintro ⟨b, rfl, u, h1, h2, h | h⟩
          · obtain ⟨r, hr2, _, _, h3⟩ := hR1.cov.at_ u h1 h2
            exact ⟨r, List.mem_append_left _ hr2, by rw [h, h3]⟩
          · obtain ⟨r, hr2, _, _, h3⟩ := hR2.cov.at_ u h1 h2
            exact ⟨r, List.mem_append_right _ hr2, by rw [h, h3]⟩
      have hnat : L.map V.int = (L.map Int.toNat).map natV := by
        rw [List.map_map]
        refine List.map_congr_left fun k hk => ?_
        obtain ⟨b, rfl, _⟩ := (hall k).mp hk
        rfl
      rw [hnat] at eL
      have sAll := same_tr s1 (same_tr s2 (same_tr s3 (same_tr sg (same_tr s4 s5))))
      have fr : H l = none := same_free (same_tr s1 (same_tr s2 (same_tr s3 (same_tr sg s4)))) hl
      refine q G3 l _ sAll fr eL ⟨?_, fun b => ?_⟩
      · rw [List.pairwise_map]
        refine (List.Pairwise.and_mem.mp hpw).imp fun {x y} h => ?_
        obtain ⟨hx, hy, h⟩ := h
        obtain ⟨b, rfl, _⟩ := (hall x).mp hx
        obtain ⟨c2, rfl, _⟩ := (hall y).mp hy
        show b < c2
        omega
      · rw [List.mem_map]
        constructor
        · rintro ⟨k, hk, rfl⟩
          obtain ⟨b, rfl, h⟩ := (hall k).mp hk
          exact h
        · intro h
          exact ⟨(b : Int), (hall _).mpr ⟨b, rfl, h⟩, rfl⟩
end
section
variable {P : Program} {w : World} {K : PySem.W.Frag} {mg : Str → Option Value} {base : Heap}
theorem ok_setend {C : Addr} (T : TabC K mg C) (S : Stands K mg "settled_end" s_settled_end) (B : Blt mg) (D_all_starts : Def P w K mg base CX0 4 "all_starts" s_all_starts ["table"] (spAllStarts C)) : Def P w K mg base CX0 5 "settled_end" s_settled_end ["table"] (spSetEnd C) := by
  obtain ⟨f, fd, F, hm⟩ := S
  refine ⟨f, fd, F, hm, okG0 F sc_settled_end (fun vs H Q E h => ?_) (fun cdv A outer s H vs Q E hg hr h => ?_)⟩
  · obtain ⟨H0, p, m, ns, rfl, _⟩ := h
    rfl
  · obtain ⟨H0, p, m, ns, rfl, tt, hF, hm0, hm1, hn, q⟩ := h
    refine ⟨_, (pss_cons (ps_set (i := 1) sc_settled_end.nd rfl (Or.inl rfl) (pe_callG D_all_starts hg (hr.mono (by decide)) (by rfl) pass0 (fun _ _ _ _ _ _ us hl => match us, hl with | [_], _ => rfl) (pa_cons (pv 0) pa_nil)))
      (pss_cons (ps_set (i := 2) sc_settled_end.nd rfl (Or.inl rfl) (pe_callTy (cr_setLN rfl) (by rfl) B.set PyProof.Rows.boot_set (pa_cons (pv 1) pa_nil)))
      (pss_cons (ps_set (i := 3) sc_settled_end.nd rfl (Or.inl rfl) (pe_ix ix_list (pv 1) (pe_un un_neg pe_int) (fun _ _ => rfl)))
      (pss_cons (ps_while PassesOwn.never (pt_cmpR op_gt (pe_callB cr_lenO (by rfl) B.len PySem.boot_len (pa_cons (pv 2) pa_nil)) pe_int (nomark _)) (pss_cons (ps_if (pt_cmpR or_sin (pv 3) (pv 2) (by rfl)) (pss_cons (ps_expr (pe_setm PySem.F.slot_set_discard PySem.F.type_set_discard mt_sdiscard (pv 2) (pa_cons (pv 3) pa_nil)))
      (pss_one (ps_expr (pe_setm PySem.F.slot_set_add PySem.F.type_set_add mt_sadd (pv 2) (pa_cons (pe_ix ix_list (pe_ix ix_list (pe_fld (pv 0) rfl) (pv 3) (fun _ _ => rfl)) pe_int (fun _ _ => rfl)) pa_nil))))) pss_nil)
      (pss_one (ps_aug (i := 3) sc_settled_end.nd rfl (Or.inl rfl) pe_int ip_sub))))
      (pss_one (ps_ret (pe_ix ix_list (pe_callB (cr_sortedSet rfl) (by rfl) B.sorted PyProof.Rows.boot_sorted (pa_cons (pv 2) pa_nil)) pe_int (fun _ _ => rfl)))))))), ?_⟩
    refine ⟨_, rfl, H0, p, m, ns, rfl, tt, hF, hm0, hm1, hn, fun H1 l L s1 hl eL hSt => ?_⟩
    obtain ⟨s0, dx, lw, lc, lb, rs0, hw0, hc0, hb0, hp, hL⟩ := tt.more s1
    have eL2 : H1 l = some (.lst ((castL L).map V.int)) := by rw [eL]; unfold castL; rw [List.map_map]; rfl
    have hnd : L.Nodup := hSt.pw.imp (fun h => by omega)
    have hndC : (castL L).Nodup := List.pairwise_map.mpr (hnd.imp fun h z => h (by omega))
    have hLle : ∀ x ∈ L, x ≤ ns.length := fun x hx => ((hSt.mem x).mp hx).le hF
    have hend : ns.length ∈ L := (hSt.mem _).mpr (start_end hF hm0)
    have hLl : L.length ≤ ns.length + 1 := by
      have := hSt.bounds hF
      exact this.2
    obtain ⟨L0, hL0⟩ : ∃ L0, L = L0 ++ [ns.length] := by
      obtain ⟨L0, x, e⟩ : ∃ L0 x, L = L0 ++ [x] := ⟨_, _, (List.dropLast_concat_getLast (fun z => by rw [z] at hend; cases hend)).symm⟩
      have hpw := hSt.pw
      have hx := hLle x (by rw [e]; simp)
      rw [e] at hend hpw
      rcases List.mem_append.mp hend with h | h
      · have := (List.pairwise_append.mp hpw).2.2 _ h x (List.mem_singleton.mpr rfl)
        omega
      · exact ⟨L0, by rw [e, List.mem_singleton.mp h]⟩
    refine ⟨_, rfl, l, castL L, rfl, SqL.of eL2, by unfold castL; rw [List.length_map]; omega, hndC, fun a ha => ?_⟩
    have e0 : upd H1 a (SetO w a (fun j => decide (j ∈ castL L)) (castL L).length) a = some (SetM w a L) := by
      rw [upd_same]
      unfold SetM castL
      rw [List.length_map]
    have n1 := Same.new (o := SetO w a (fun j => decide (j ∈ castL L)) (castL L).length) ha
    simp only [L2.start, List.set_cons_succ, List.set_cons_zero, List.map_cons, List.map_nil, List.length_cons, List.length_nil, Nat.reduceAdd, Nat.reduceSub, List.replicate, List.cons_append, List.nil_append]
    refine ⟨_, rfl, _, rfl, l, _, _, natV ns.length, rfl, rfl, SqL.of (n1 _ _ eL), by rw [hL0, List.map_append]; exact atI_last _ _, ?_⟩
    have bf := begs_facts hF
    refine ⟨fun k σ G => ∃ M : List Nat, σ = [some (.ref p), some (.ref l), some (.ref a), some (natV k)] ∧ Same H1 G ∧ G a = some (SetM w a M) ∧ M.Nodup ∧ 0 < M.length ∧ M.length ≤ ns.length + 1 ∧ k ≤ ns.length ∧ (∀ x ∈ M, x ≤ k) ∧ ∀ x, Common ns m (fun y => y ∈ M) x ↔ Common ns m (StartAt ns m) x,
      ⟨ns.length, L, rfl, n1, e0, hnd, List.length_pos_of_mem hend, hLl, Nat.le_refl _, hLle, fun x => forall_congr' fun y => by show (y ∈ L → _) ↔ _; rw [hSt.mem]⟩, ?_⟩
    rintro k σ G ⟨M, rfl, sG, eG, hM, hM0, hMl, hk, hle, hcom⟩
    refine ⟨_, rfl, a, _, _, rfl, eG, ?_⟩
    repeat first | refine ⟨_, rfl, ?_⟩ | refine ⟨_, _, rfl, rfl, ?_⟩ | refine ⟨rfl, ?_⟩ | refine ⟨_, _, rfl, ?_⟩ | refine ⟨_, _, _, rfl, ?_⟩
    refine ite2 (fun h1 => ?_) (fun h1 => ?_)
    · have h1 : (1 : Int) < (M.length : Int) := of_decide_eq_true h1
      have hk0 : 0 < k := by
        obtain ⟨x, hx, hx0⟩ := other_of (e := 0) hM (by omega)
        have := hle x hx
        omega
      refine ⟨fun σ' H2 => _, fun _ _ h => ⟨k - 1, by omega, h⟩, ?_⟩
      refine ⟨_, rfl, _, rfl, (k : Int), a, _, _, rfl, rfl, eG, _, rfl, ite2 (fun h2 => ?_) (fun h2 => ?_)⟩
      · have h2 : k ∈ M := castL_mem.mp (of_decide_eq_true h2)
        obtain ⟨w1, w2, w3, w4⟩ := way_step hF hM (by omega) hk0 hk h2 hle
        obtain ⟨bs, b0, b1, b2⟩ := bf k (by omega) (by omega)
        obtain ⟨b, eb, hb, _⟩ := hL.all.2 k bs b0
        refine ⟨_, rfl, ⟨a, _, _, rfl, eG⟩, _, rfl, a, (k : Int), _, _, rfl, rfl, eG, ?_⟩
        have e1 := upd_same (H := G) (a := a) (o := SetO w a (fun j => (fun j => decide (j ∈ castL M)) j && !decide (j = (k : Int))) (if (fun j => decide (j ∈ castL M)) (k : Int) = true then M.length - 1 else M.length))
        have s2 : Same H1 (upd G a (SetO w a (fun j => (fun j => decide (j ∈ castL M)) j && !decide (j = (k : Int))) (if (fun j => decide (j ∈ castL M)) (k : Int) = true then M.length - 1 else M.length))) := Same.set sG ha
        have eS := setM_disc (w := w) (a := a) hM h2
        have e1 : upd G a (SetO w a (fun j => (fun j => decide (j ∈ castL M)) j && !decide (j = (k : Int))) (if (fun j => decide (j ∈ castL M)) (k : Int) = true then M.length - 1 else M.length)) a = some (SetM w a (M.erase k)) := by rw [e1, eS]
        refine ⟨_, rfl, ⟨a, _, _, rfl, e1⟩, _, rfl, p, C, dx, _, _, rfl, s2 _ _ hp, T.cl, T.nB, tf_B _ _ _ _, _, rfl, lb, _, _, .ref b, rfl, rfl, SqL.of (s2 _ _ hL.b), atI_nat eb, b, _, 0, natV (fB (nsOf ns) m k), rfl, rfl, SqL.of (s2 _ _ hb), ?_, a, (fB (nsOf ns) m k : Int), _, _, rfl, rfl, e1, ?_, ?_⟩
        · exact atI_nat (j := 0) (by rw [List.getElem?_map, b1]; rfl)
        · rw [List.length_erase_of_mem h2]
          unfold scanBound
          omega
        have s3 := Same.set (o := SetO w a (fun j => (fun j => decide (j ∈ castL (M.erase k))) j || decide (j = (fB (nsOf ns) m k : Int))) (if (fun j => decide (j ∈ castL (M.erase k))) (fB (nsOf ns) m k : Int) = true then (M.erase k).length else (M.erase k).length + 1)) s2 ha
        have w5 : (addL (M.erase k) (fB (nsOf ns) m k)).length ≤ ns.length + 1 := by
          unfold addL
          split
          · rw [List.length_erase_of_mem h2]; omega
          · rw [List.length_cons, List.length_erase_of_mem h2]; omega
        have ek : natV (k - 1) = V.int ((k : Int) - 1) := by
          show V.int (((k - 1 : Nat) : Int)) = _
          congr 1
          omega
        repeat first | refine ⟨_, rfl, ?_⟩ | refine ⟨_, _, rfl, rfl, ?_⟩ | refine ⟨rfl, ?_⟩ | refine ⟨_, _, rfl, ?_⟩ | refine ⟨_, _, _, rfl, ?_⟩
        refine ⟨addL (M.erase k) (fB (nsOf ns) m k), by rw [ek]; rfl, s3, ?_, w2, w4, w5, by omega, w3, fun x => (w1 x).symm.trans (hcom x)⟩
        rw [upd_same]
        exact congrArg some setM_add
      · have h2 : k ∉ M := fun z => h2 (decide_eq_true (castL_mem.mpr z))
        have ek : natV (k - 1) = V.int ((k : Int) - 1) := by
          show V.int (((k - 1 : Nat) : Int)) = _
          congr 1
          omega
        repeat first | refine ⟨_, rfl, ?_⟩ | refine ⟨_, _, rfl, rfl, ?_⟩ | refine ⟨rfl, ?_⟩ | refine ⟨_, _, rfl, ?_⟩ | refine ⟨_, _, _, rfl, ?_⟩
        refine ⟨M, by rw [ek]; rfl, sG, eG, hM, hM0, hMl, by omega, fun x hx => ?_, hcom⟩
        have := hle x hx
        have : x ≠ k := fun z => h2 (z ▸ hx)
        omega
    · have h1 : ¬ (1 : Int) < (M.length : Int) := of_decide_eq_false (Bool.eq_false_iff.mpr h1)
      obtain ⟨x, rfl, hE⟩ := way_end hF (by omega) hM0 (fun x hx => Nat.le_trans (hle x hx) hk) hcom
      repeat first | refine ⟨_, rfl, ?_⟩ | refine ⟨_, _, rfl, rfl, ?_⟩ | refine ⟨rfl, ?_⟩ | refine ⟨_, _, rfl, ?_⟩ | refine ⟨_, _, _, rfl, ?_⟩
      refine ⟨a, _, _, rfl, eG, (by show 1 < 64; decide), fun xs r hpw hmem hlen hr0 => ?_⟩
      have exs : xs = [(x : Int)] := by
        match xs, hlen, hmem with
        | [y], _, hmem =>
          have := of_decide_eq_true ((hmem y).mp (by simp))
          have this : y ∈ castL [x] := this
          rw [List.mem_singleton.mp this]
      subst exs
      refine ⟨r, _, 0, natV x, rfl, rfl, SqL.of upd_same, rfl, ?_⟩
      exact q _ x (same_tr s1 (same_tr sG (Same.new hr0))) hE (Nat.le_trans (hle x (by simp)) hk)
end
section
variable {P : Program} {w : World} {K : PySem.W.Frag} {mg : Str → Option Value} {base : Heap}
theorem ok_held {C : Addr} (S : Stands K mg "held_words" s_held_words) (B : Blt mg) (D_table_of : Def P w K mg base CX0 3 "table_of" s_table_of ["width", "text"] (spTableOf K C)) (D_settled_end : Def P w K mg base CX0 5 "settled_end" s_settled_end ["table"] (spSetEnd C)) : Def P w K mg base CX0 6 "held_words" s_held_words ["width", "text"] (spHeld K) := by
  obtain ⟨f, fd, F, hm⟩ := S
  refine ⟨f, fd, F, hm, okG0 F sc_held_words (fun vs H Q E h => ?_) (fun cdv A outer s H vs Q E hg hr h => ?_)⟩
  · obtain ⟨m, t, ns, rfl, _⟩ := h
    rfl
  · obtain ⟨m, t, ns, rfl, hT, hF, hm0, hm1, hn, q⟩ := h
    refine ⟨_, (pss_one (ps_ret (pe_op op_sub (pe_callB call_len_seq (by rfl) B.len PySem.boot_len (pa_cons (pv 1) pa_nil)) (pe_callG D_settled_end hg (hr.mono (by decide)) (by rfl) pass0 (fun _ _ _ _ _ _ us hl => match us, hl with | [_], _ => rfl) (pa_cons (pe_callG D_table_of hg (hr.mono (by decide)) (by rfl) pass0 (fun _ _ _ _ _ _ us hl => match us, hl with | [_, _], _ => rfl) (pa_cons (pv 0) (pa_cons (pv 1) pa_nil))) pa_nil))))), ?_⟩
    have hcl : (ns.map V.int).length = ns.length := List.length_map ..
    repeat first | refine ⟨_, rfl, ?_⟩ | refine ⟨_, _, rfl, rfl, ?_⟩ | refine ⟨rfl, ?_⟩ | refine ⟨_, _, rfl, ?_⟩ | refine ⟨_, _, _, rfl, ?_⟩
    refine ⟨t, _, rfl, .inr hT, ?_⟩
    rw [hcl]
    repeat first | refine ⟨_, rfl, ?_⟩ | refine ⟨_, _, rfl, rfl, ?_⟩ | refine ⟨rfl, ?_⟩ | refine ⟨_, _, rfl, ?_⟩ | refine ⟨_, _, _, rfl, ?_⟩
    refine ⟨m, t, ns, rfl, hT, hF, hm0, hm1, hn, fun H1 p tt => ?_⟩
    refine ⟨H, p, m, ns, rfl, tt, hF, hm0, hm1, hn, fun H2 e s2 hE he => ?_⟩
    repeat first | refine ⟨_, rfl, ?_⟩ | refine ⟨_, _, rfl, rfl, ?_⟩ | refine ⟨rfl, ?_⟩ | refine ⟨_, _, rfl, ?_⟩ | refine ⟨_, _, _, rfl, ?_⟩
    exact q H2 e (same_tr tt.1 s2) hE he
end
section
variable {P : Program} {w : World} {K : PySem.W.Frag} {mg : Str → Option Value} {base : Heap}
theorem ok_law {f : Addr} {fd : FuncData} (F : Fun K "law" "law" s_law f fd) (B : Blt mg) (D__law_draws : Def P w K mg base CX0 1 "_law_draws" s__law_draws ["_law_script", "_law_k"] (spPot K)) (D__law_below : Def P w K mg base CX0 1 "_law_below" s__law_below ["_law_draws_here", "_law_many"] spTake) (D__law_text : Def P w K mg base CX0 3 "_law_text" s__law_text ["_law_draws_here", "_law_width", "_law_most"] (spDrawn K))
    (D__law_settled : Def P w K mg base CX0 3 "_law_settled" s__law_settled ["_law_width", "_law_text_here"] (spSettled3 K)) (D_held_words : Def P w K mg base CX0 6 "held_words" s_held_words ["width", "text"] (spHeld K)) :
    FnG P w K mg base CX0 7 f fd ["_law_script"] (spLaw K) := by
  refine okG0 F sc_law (fun vs H Q E h => ?_) (fun cdv A outer s H vs Q E hg hr h => ?_)
  · obtain ⟨a, ns, rfl, _⟩ := h
    rfl
  · obtain ⟨a, ns, rfl, hS, hl, q⟩ := h
    have hu := hr.units
    refine ⟨_, (pss_cons (ps_for PassesOwn.never rfl (pi_range1 (by rfl) B.range (pa_cons (pe_callB (call_max2 rfl) (by rfl) B.max PyProof.Rows.boot_max (pa_cons pe_int (pa_cons (pe_callB (call_min2 rfl) (by rfl) B.min PyProof.Rows.boot_min (pa_cons pe_int (pa_cons (pe_callB call_len_seq (by rfl) B.len PySem.boot_len (pa_cons (pv 0) pa_nil)) pa_nil))) pa_nil))) pa_nil)) (pg_name (i := 1) sc_law.nd rfl (Or.inl rfl)) (pss_cons (ps_set (i := 2) sc_law.nd rfl (Or.inl rfl) (pe_callG D__law_draws hg (hr.mono (by decide)) (by rfl) pass0 (fun _ _ _ _ _ _ us hl => match us, hl with | [_, _], _ => rfl) (pa_cons (pv 0) (pa_cons (pv 1) pa_nil))))
      (pss_one (ps_for PassesOwn.never rfl (pi_range1 (by rfl) B.range (pa_cons pe_int pa_nil)) (pg_name (i := 3) sc_law.nd rfl (Or.inl rfl)) (pss_cons (ps_set (i := 4) sc_law.nd rfl (Or.inl rfl) (pe_op op_add pe_int (pe_callG D__law_below hg (hr.mono (by decide)) (by rfl) pass0 (fun _ _ _ _ _ _ us hl => match us, hl with | [_, _], _ => rfl) (pa_cons (pv 2) (pa_cons pe_int pa_nil)))))
      (pss_cons (ps_set (i := 5) sc_law.nd rfl (Or.inl rfl) (pe_callG D__law_text hg (hr.mono (by decide)) (by rfl) pass0 (fun _ _ _ _ _ _ us hl => match us, hl with | [_, _, _], _ => rfl) (pa_cons (pv 2) (pa_cons (pv 4) (pa_cons pe_int pa_nil)))))
      (pss_one (ps_if (pt_cmpR op_ne (pe_callB (cr_repr hg hu) (by rfl) B.repr PyProof.Rows.boot_repr (pa_cons (pe_callG D_held_words hg (hr.mono (by decide)) (by rfl) pass0 (fun _ _ _ _ _ _ us hl => match us, hl with | [_, _], _ => rfl) (pa_cons (pv 4) (pa_cons (pv 5) pa_nil))) pa_nil)) (pe_callB (cr_repr hg hu) (by rfl) B.repr PyProof.Rows.boot_repr (pa_cons (pe_op op_sub (pe_callB call_len_seq (by rfl) B.len PySem.boot_len (pa_cons (pv 5) pa_nil)) (pe_callG D__law_settled hg (hr.mono (by decide)) (by rfl) pass0 (fun _ _ _ _ _ _ us hl => match us, hl with | [_, _], _ => rfl) (pa_cons (pv 4) (pa_cons (pv 5) pa_nil)))) pa_nil)) (nomark _)) (pss_one (ps_ret pe_bl)) pss_nil))))))))
      (pss_one (ps_ret pe_bl))), ?_⟩
    have hnl : (ns.map V.int).length = ns.length := List.length_map ..
    refine ⟨_, rfl, a, _, rfl, .inl hS, _, _, rfl, _, _, rfl, _, rfl, ?_, ?_, ?_⟩
    · split <;> (try split) <;> omega
    · split <;> (try split) <;> omega
    generalize hj : (if (if (((ns.map V.int).length : Nat) : Int) < 3 then (((ns.map V.int).length : Nat) : Int) else 3) > 1 then (if (((ns.map V.int).length : Nat) : Int) < 3 then (((ns.map V.int).length : Nat) : Int) else 3) else (1 : Int)) = j
    have j3 : j ≤ 3 := by
      subst hj
      split <;> (try split) <;> omega
    refine for_range (lo := 0) (n := j.toNat) (fun i σ H' => ∃ y1 y2 y3 y4 y5, σ = [some (.ref a), y1, y2, y3, y4, y5] ∧ SqL K H' a (ns.map V.int)) ⟨_, _, _, _, _, rfl, hS⟩ ?_ ?_
    · rintro i σ H' hi ⟨y1, y2, y3, y4, y5, rfl, hS1⟩
      refine ⟨_, rfl, _, rfl, a, ns, i, by rw [Int.zero_add], hS1, hl, by omega, fun H2 p sm hp0 hp => ?_⟩
      have c0 := Cr.start (K := K) hp
      repeat first | refine ⟨_, rfl, ?_⟩ | refine ⟨_, _, rfl, rfl, ?_⟩ | refine ⟨rfl, ?_⟩ | refine ⟨_, _, rfl, ?_⟩ | refine ⟨_, _, _, rfl, ?_⟩
      refine ⟨by decide, by decide, ?_⟩
      refine for_range (lo := 0) (n := 4) (fun i σ G => ∃ y1 y3 y4 y5, σ = [some (.ref a), y1, some (.ref p), y3, y4, y5] ∧ Cr K p H2 G (2000 * i) [] [])
        ⟨_, _, _, _, rfl, c0.mono (by omega)⟩ ?_ ?_
      · rintro ii σ G hii ⟨y1, y3, y4, y5, rfl, c⟩
        repeat first | refine ⟨_, rfl, ?_⟩ | refine ⟨_, _, rfl, rfl, ?_⟩ | refine ⟨rfl, ?_⟩ | refine ⟨_, _, rfl, ?_⟩ | refine ⟨_, _, _, rfl, ?_⟩
        refine ⟨p, 20, _, rfl, c.pot, by omega, by decide, by decide, fun H3 ra k3 hp3 ra0 ra1 => ⟨_, _, rfl, rfl, ?_⟩⟩
        have c1 := c.draw k3 hp3
        have m0 : 1 ≤ 1 + ra := by omega
        have m1 : 1 + ra ≤ 20 := by omega
        dsimp only
        generalize 1 + ra = m at m0 m1 ⊢
        repeat first | refine ⟨_, rfl, ?_⟩ | refine ⟨_, _, rfl, rfl, ?_⟩ | refine ⟨rfl, ?_⟩ | refine ⟨_, _, rfl, ?_⟩ | refine ⟨_, _, _, rfl, ?_⟩
        refine ⟨p, m, 14, _, rfl, hp3, by omega, m0, by omega, by omega, by omega, fun H4 rt ms k4 hp4 eR hlen hb => ?_⟩
        have c2 := c1.draw k4 hp4
        have hrow := SqT.of (K := K) eR
        have hl14 : ms.length ≤ 14 := by omega
        have hF : Fit m ms := fit_of hb
        have hcl : (ms.map V.int).length = ms.length := List.length_map ..
        repeat first | refine ⟨_, rfl, ?_⟩ | refine ⟨_, _, rfl, rfl, ?_⟩ | refine ⟨rfl, ?_⟩ | refine ⟨_, _, rfl, ?_⟩ | refine ⟨_, _, _, rfl, ?_⟩
        refine ⟨m, rt, ms, rfl, hrow, hF, m0, by omega, by omega, fun H5 e s5 hSE he => ?_⟩
        have sI : Sm 104 0 (.int ((ms.length : Int) - (e : Int))) := Sm.int (by omega) (by omega)
        refine ⟨_, _, rfl, .int _, sI.sh, Nat.le_trans sI.dp (by decide), Nat.le_trans sI.wt (by decide), ?_⟩
        repeat first | refine ⟨_, rfl, ?_⟩ | refine ⟨_, _, rfl, rfl, ?_⟩ | refine ⟨rfl, ?_⟩ | refine ⟨_, _, rfl, ?_⟩ | refine ⟨_, _, _, rfl, ?_⟩
        refine ⟨rt, _, rfl, .inr (Same.tup s5 hrow), ?_⟩
        rw [hcl]
        repeat first | refine ⟨_, rfl, ?_⟩ | refine ⟨_, _, rfl, rfl, ?_⟩ | refine ⟨rfl, ?_⟩ | refine ⟨_, _, rfl, ?_⟩ | refine ⟨_, _, _, rfl, ?_⟩
        refine ⟨m, rt, ms, rfl, Same.tup s5 hrow, hF, m0, by omega, by omega, fun H6 e2 s6 hSE2 he2 => ?_⟩
        obtain rfl := SetE.uni hSE hSE2
        repeat first | refine ⟨_, rfl, ?_⟩ | refine ⟨_, _, rfl, rfl, ?_⟩ | refine ⟨rfl, ?_⟩ | refine ⟨_, _, rfl, ?_⟩ | refine ⟨_, _, _, rfl, ?_⟩
        refine ⟨_, _, rfl, .int _, sI.sh, Nat.le_trans sI.dp (by decide), Nat.le_trans sI.wt (by decide), ?_⟩
        repeat first | refine ⟨_, rfl, ?_⟩ | refine ⟨_, _, rfl, rfl, ?_⟩ | refine ⟨rfl, ?_⟩ | refine ⟨_, _, rfl, ?_⟩ | refine ⟨_, _, _, rfl, ?_⟩
        refine ite2 (fun h => by
          rw [decide_eq_true rfl] at h
          exact absurd h (by decide)) (fun _ => iteF (A := True) ?_)
        exact ⟨_, _, _, _, rfl, ((c2.same s5).same s6).mono (by omega)⟩
      · rintro σ G ⟨y1, y3, y4, y5, rfl, c⟩
        exact ⟨_, _, _, _, _, rfl, seq_past hS1 hp0 sm c.k⟩
    · rintro σ H' ⟨y1, y2, y3, y4, y5, rfl, _⟩
      exact q H'
end
theorem all_top {P : Program} {w : World} {K : PySem.W.Frag} {h : Heap} {mg : Str → Option Value} {fa : Addr} (X : K.In h) (G : h.Ns mainGlobals mg) (hfa : mg "law" = some (.ref fa))
    {CT : Addr}
    {f0 : Addr} {od0 an0 : Option Addr} {sl0 : Array (Option Value)} {oc0 kV0 dc0 pm0 cd0 ct0 : Value}
    {f1 : Addr} {od1 an1 : Option Addr} {sl1 : Array (Option Value)} {oc1 kV1 dc1 pm1 cd1 ct1 : Value}
    {f2 : Addr} {od2 an2 : Option Addr} {sl2 : Array (Option Value)} {oc2 kV2 dc2 pm2 cd2 ct2 : Value}
    {f3 : Addr} {od3 an3 : Option Addr} {sl3 : Array (Option Value)} {oc3 kV3 dc3 pm3 cd3 ct3 : Value}
    {f4 : Addr} {od4 an4 : Option Addr} {sl4 : Array (Option Value)} {oc4 kV4 dc4 pm4 cd4 ct4 : Value}
    {f5 : Addr} {od5 an5 : Option Addr} {sl5 : Array (Option Value)} {oc5 kV5 dc5 pm5 cd5 ct5 : Value}
    {f6 : Addr} {od6 an6 : Option Addr} {sl6 : Array (Option Value)} {oc6 kV6 dc6 pm6 cd6 ct6 : Value}
    {f7 : Addr} {od7 an7 : Option Addr} {sl7 : Array (Option Value)} {oc7 kV7 dc7 pm7 cd7 ct7 : Value}
    {f8 : Addr} {od8 an8 : Option Addr} {sl8 : Array (Option Value)} {oc8 kV8 dc8 pm8 cd8 ct8 : Value}
    {f9 : Addr} {od9 an9 : Option Addr} {sl9 : Array (Option Value)} {oc9 kV9 dc9 pm9 cd9 ct9 : Value}
    {f10 : Addr} {od10 an10 : Option Addr} {sl10 : Array (Option Value)} {oc10 kV10 dc10 pm10 cd10 ct10 : Value}
    {f11 : Addr} {od11 an11 : Option Addr} {sl11 : Array (Option Value)} {oc11 kV11 dc11 pm11 cd11 ct11 : Value}
    {f12 : Addr} {od12 an12 : Option Addr} {sl12 : Array (Option Value)} {oc12 kV12 dc12 pm12 cd12 ct12 : Value}
    {f13 : Addr} {od13 an13 : Option Addr} {sl13 : Array (Option Value)} {oc13 kV13 dc13 pm13 cd13 ct13 : Value}
    {f14 : Addr} {od14 an14 : Option Addr} {sl14 : Array (Option Value)} {oc14 kV14 dc14 pm14 cd14 ct14 : Value}
    {f15 : Addr} {od15 an15 : Option Addr} {sl15 : Array (Option Value)} {oc15 kV15 dc15 pm15 cd15 ct15 : Value}
    {f16 : Addr} {od16 an16 : Option Addr} {sl16 : Array (Option Value)} {oc16 kV16 dc16 pm16 cd16 ct16 : Value}
    {f17 : Addr} {od17 an17 : Option Addr} {sl17 : Array (Option Value)} {oc17 kV17 dc17 pm17 cd17 ct17 : Value}
    {f18 : Addr} {od18 an18 : Option Addr} {sl18 : Array (Option Value)} {oc18 kV18 dc18 pm18 cd18 ct18 : Value}
    {f19 : Addr} {od19 an19 : Option Addr} {sl19 : Array (Option Value)} {oc19 kV19 dc19 pm19 cd19 ct19 : Value}
    {f20 : Addr} {od20 an20 : Option Addr} {sl20 : Array (Option Value)} {oc20 kV20 dc20 pm20 cd20 ct20 : Value}
    {f21 : Addr} {od21 an21 : Option Addr} {sl21 : Array (Option Value)} {oc21 kV21 dc21 pm21 cd21 ct21 : Value}
    {f22 : Addr} {od22 an22 : Option Addr} {sl22 : Array (Option Value)} {oc22 kV22 dc22 pm22 cd22 ct22 : Value}
    (z0 : PySem.W.nsIn K mainGlobals "len" = some none)
    (z1 : PySem.W.nsIn K mainGlobals "abs" = some none)
    (z2 : PySem.W.nsIn K mainGlobals "max" = some none)
    (z3 : PySem.W.nsIn K mainGlobals "min" = some none)
    (z4 : PySem.W.nsIn K mainGlobals "sum" = some none)
    (z5 : PySem.W.nsIn K mainGlobals "range" = some none)
    (z6 : PySem.W.nsIn K mainGlobals "repr" = some none)
    (z7 : PySem.W.nsIn K mainGlobals "all" = some none)
    (z8 : PySem.W.nsIn K mainGlobals "any" = some none)
    (z9 : PySem.W.nsIn K mainGlobals "int" = some none)
    (z10 : PySem.W.nsIn K mainGlobals "tuple" = some none)
    (z11 : PySem.W.nsIn K mainGlobals "list" = some none)
    (z12 : PySem.W.nsIn K mainGlobals "str" = some none)
    (z13 : PySem.W.nsIn K mainGlobals "bool" = some none)
    (z14 : PySem.W.nsIn K mainGlobals "dict" = some none)
    (z15 : PySem.W.nsIn K mainGlobals "zip" = some none)
    (z16 : PySem.W.nsIn K mainGlobals "enumerate" = some none)
    (z17 : PySem.W.nsIn K mainGlobals "isinstance" = some none)
    (z18 : PySem.W.nsIn K mainGlobals "sorted" = some none)
    (z19 : PySem.W.nsIn K mainGlobals "reversed" = some none)
    (z20 : PySem.W.nsIn K mainGlobals "set" = some none)
    (aT : PySem.W.nsIn K mainGlobals "Table" = some (some (.ref CT)))
    (tpg : PySem.W.plainGet K CT Str.empty = true)
    (thd : PySem.W.hasDictIn K CT = true)
    (tpo : PySem.W.plainOver K CT = true)
    (tsa : PySem.W.findIn K (.ref CT) "__setattr__" = some (some (.builtin "object.__setattr__")))
    (tmk : PySem.W.makesIn K CT = true)
    (tkc : PySem.W.keepIn K (.ref CT) = true)
    (tn0 : PySem.W.findIn K (.ref CT) "line_width" = some none)
    (tn1 : PySem.W.findIn K (.ref CT) "words" = some none)
    (tn2 : PySem.W.findIn K (.ref CT) "costs" = some none)
    (tn3 : PySem.W.findIn K (.ref CT) "begins" = some none)
    (a0 : PySem.W.nsIn K mainGlobals "_law_draws" = some (some (.ref f0)))
    (l0 : K.lookup f0 = some ⟨oc0, od0, .func (PySem.W.fnOf "_law_draws" "_law_draws" (defArgs s__law_draws) (defBody s__law_draws) (defScope s__law_draws) .none kV0 dc0 pm0 an0 cd0 ct0), sl0⟩)
    (c0 : PySem.W.codeIn K cd0 "_law_draws" = true)
    (k0 : PySem.W.keepIn K (.ref f0) = true)
    (a1 : PySem.W.nsIn K mainGlobals "_law_below" = some (some (.ref f1)))
    (l1 : K.lookup f1 = some ⟨oc1, od1, .func (PySem.W.fnOf "_law_below" "_law_below" (defArgs s__law_below) (defBody s__law_below) (defScope s__law_below) .none kV1 dc1 pm1 an1 cd1 ct1), sl1⟩)
    (c1 : PySem.W.codeIn K cd1 "_law_below" = true)
    (k1 : PySem.W.keepIn K (.ref f1) = true)
    (a2 : PySem.W.nsIn K mainGlobals "_law_pick" = some (some (.ref f2)))
    (l2 : K.lookup f2 = some ⟨oc2, od2, .func (PySem.W.fnOf "_law_pick" "_law_pick" (defArgs s__law_pick) (defBody s__law_pick) (defScope s__law_pick) .none kV2 dc2 pm2 an2 cd2 ct2), sl2⟩)
    (c2 : PySem.W.codeIn K cd2 "_law_pick" = true)
    (k2 : PySem.W.keepIn K (.ref f2) = true)
    (a3 : PySem.W.nsIn K mainGlobals "_law_text" = some (some (.ref f3)))
    (l3 : K.lookup f3 = some ⟨oc3, od3, .func (PySem.W.fnOf "_law_text" "_law_text" (defArgs s__law_text) (defBody s__law_text) (defScope s__law_text) .none kV3 dc3 pm3 an3 cd3 ct3), sl3⟩)
    (c3 : PySem.W.codeIn K cd3 "_law_text" = true)
    (k3 : PySem.W.keepIn K (.ref f3) = true)
    (a4 : PySem.W.nsIn K mainGlobals "_law_futures" = some (some (.ref f4)))
    (l4 : K.lookup f4 = some ⟨oc4, od4, .func (PySem.W.fnOf "_law_futures" "_law_futures" (defArgs s__law_futures) (defBody s__law_futures) (defScope s__law_futures) .none kV4 dc4 pm4 an4 cd4 ct4), sl4⟩)
    (c4 : PySem.W.codeIn K cd4 "_law_futures" = true)
    (k4 : PySem.W.keepIn K (.ref f4) = true)
    (a5 : PySem.W.nsIn K mainGlobals "_law_solved" = some (some (.ref f5)))
    (l5 : K.lookup f5 = some ⟨oc5, od5, .func (PySem.W.fnOf "_law_solved" "_law_solved" (defArgs s__law_solved) (defBody s__law_solved) (defScope s__law_solved) .none kV5 dc5 pm5 an5 cd5 ct5), sl5⟩)
    (c5 : PySem.W.codeIn K cd5 "_law_solved" = true)
    (k5 : PySem.W.keepIn K (.ref f5) = true)
    (a6 : PySem.W.nsIn K mainGlobals "_law_ends" = some (some (.ref f6)))
    (l6 : K.lookup f6 = some ⟨oc6, od6, .func (PySem.W.fnOf "_law_ends" "_law_ends" (defArgs s__law_ends) (defBody s__law_ends) (defScope s__law_ends) .none kV6 dc6 pm6 an6 cd6 ct6), sl6⟩)
    (c6 : PySem.W.codeIn K cd6 "_law_ends" = true)
    (k6 : PySem.W.keepIn K (.ref f6) = true)
    (a7 : PySem.W.nsIn K mainGlobals "_law_settled" = some (some (.ref f7)))
    (l7 : K.lookup f7 = some ⟨oc7, od7, .func (PySem.W.fnOf "_law_settled" "_law_settled" (defArgs s__law_settled) (defBody s__law_settled) (defScope s__law_settled) .none kV7 dc7 pm7 an7 cd7 ct7), sl7⟩)
    (c7 : PySem.W.codeIn K cd7 "_law_settled" = true)
    (k7 : PySem.W.keepIn K (.ref f7) = true)
    (a8 : PySem.W.findIn K (.ref CT) "__init__" = some (some (.ref f8)))
    (i8 : PySem.W.isFn K (.ref f8) = true)
    (l8 : K.lookup f8 = some ⟨oc8, od8, .func (PySem.W.fnOf "__init__" "Table.__init__" (defArgs s_Table_init) (defBody s_Table_init) (defScope s_Table_init) .none kV8 dc8 pm8 an8 cd8 ct8), sl8⟩)
    (c8 : PySem.W.codeIn K cd8 "Table.__init__" = true)
    (k8 : PySem.W.keepIn K (.ref f8) = true)
    (a9 : PySem.W.nsIn K mainGlobals "last_lines" = some (some (.ref f9)))
    (l9 : K.lookup f9 = some ⟨oc9, od9, .func (PySem.W.fnOf "last_lines" "last_lines" (defArgs s_last_lines) (defBody s_last_lines) (defScope s_last_lines) .none kV9 dc9 pm9 an9 cd9 ct9), sl9⟩)
    (c9 : PySem.W.codeIn K cd9 "last_lines" = true)
    (k9 : PySem.W.keepIn K (.ref f9) = true)
    (a10 : PySem.W.nsIn K mainGlobals "cheapest" = some (some (.ref f10)))
    (l10 : K.lookup f10 = some ⟨oc10, od10, .func (PySem.W.fnOf "cheapest" "cheapest" (defArgs s_cheapest) (defBody s_cheapest) (defScope s_cheapest) .none kV10 dc10 pm10 an10 cd10 ct10), sl10⟩)
    (c10 : PySem.W.codeIn K cd10 "cheapest" = true)
    (k10 : PySem.W.keepIn K (.ref f10) = true)
    (a11 : PySem.W.findIn K (.ref CT) "grow" = some (some (.ref f11)))
    (i11 : PySem.W.isFn K (.ref f11) = true)
    (l11 : K.lookup f11 = some ⟨oc11, od11, .func (PySem.W.fnOf "grow" "Table.grow" (defArgs s_Table_grow) (defBody s_Table_grow) (defScope s_Table_grow) .none kV11 dc11 pm11 an11 cd11 ct11), sl11⟩)
    (c11 : PySem.W.codeIn K cd11 "Table.grow" = true)
    (k11 : PySem.W.keepIn K (.ref f11) = true)
    (a12 : PySem.W.nsIn K mainGlobals "table_of" = some (some (.ref f12)))
    (l12 : K.lookup f12 = some ⟨oc12, od12, .func (PySem.W.fnOf "table_of" "table_of" (defArgs s_table_of) (defBody s_table_of) (defScope s_table_of) .none kV12 dc12 pm12 an12 cd12 ct12), sl12⟩)
    (c12 : PySem.W.codeIn K cd12 "table_of" = true)
    (k12 : PySem.W.keepIn K (.ref f12) = true)
    (a13 : PySem.W.nsIn K mainGlobals "_crossings" = some (some (.ref f13)))
    (l13 : K.lookup f13 = some ⟨oc13, od13, .func (PySem.W.fnOf "_crossings" "_crossings" (defArgs s__crossings) (defBody s__crossings) (defScope s__crossings) .none kV13 dc13 pm13 an13 cd13 ct13), sl13⟩)
    (c13 : PySem.W.codeIn K cd13 "_crossings" = true)
    (k13 : PySem.W.keepIn K (.ref f13) = true)
    (a14 : PySem.W.nsIn K mainGlobals "_ranges" = some (some (.ref f14)))
    (l14 : K.lookup f14 = some ⟨oc14, od14, .func (PySem.W.fnOf "_ranges" "_ranges" (defArgs s__ranges) (defBody s__ranges) (defScope s__ranges) .none kV14 dc14 pm14 an14 cd14 ct14), sl14⟩)
    (c14 : PySem.W.codeIn K cd14 "_ranges" = true)
    (k14 : PySem.W.keepIn K (.ref f14) = true)
    (a15 : PySem.W.nsIn K mainGlobals "_closing_limit" = some (some (.ref f15)))
    (l15 : K.lookup f15 = some ⟨oc15, od15, .func (PySem.W.fnOf "_closing_limit" "_closing_limit" (defArgs s__closing_limit) (defBody s__closing_limit) (defScope s__closing_limit) .none kV15 dc15 pm15 an15 cd15 ct15), sl15⟩)
    (c15 : PySem.W.codeIn K cd15 "_closing_limit" = true)
    (k15 : PySem.W.keepIn K (.ref f15) = true)
    (a16 : PySem.W.nsIn K mainGlobals "closing_ranges" = some (some (.ref f16)))
    (l16 : K.lookup f16 = some ⟨oc16, od16, .func (PySem.W.fnOf "closing_ranges" "closing_ranges" (defArgs s_closing_ranges) (defBody s_closing_ranges) (defScope s_closing_ranges) .none kV16 dc16 pm16 an16 cd16 ct16), sl16⟩)
    (c16 : PySem.W.codeIn K cd16 "closing_ranges" = true)
    (k16 : PySem.W.keepIn K (.ref f16) = true)
    (a17 : PySem.W.nsIn K mainGlobals "_open_limit" = some (some (.ref f17)))
    (l17 : K.lookup f17 = some ⟨oc17, od17, .func (PySem.W.fnOf "_open_limit" "_open_limit" (defArgs s__open_limit) (defBody s__open_limit) (defScope s__open_limit) .none kV17 dc17 pm17 an17 cd17 ct17), sl17⟩)
    (c17 : PySem.W.codeIn K cd17 "_open_limit" = true)
    (k17 : PySem.W.keepIn K (.ref f17) = true)
    (a18 : PySem.W.nsIn K mainGlobals "open_ranges" = some (some (.ref f18)))
    (l18 : K.lookup f18 = some ⟨oc18, od18, .func (PySem.W.fnOf "open_ranges" "open_ranges" (defArgs s_open_ranges) (defBody s_open_ranges) (defScope s_open_ranges) .none kV18 dc18 pm18 an18 cd18 ct18), sl18⟩)
    (c18 : PySem.W.codeIn K cd18 "open_ranges" = true)
    (k18 : PySem.W.keepIn K (.ref f18) = true)
    (a19 : PySem.W.nsIn K mainGlobals "all_starts" = some (some (.ref f19)))
    (l19 : K.lookup f19 = some ⟨oc19, od19, .func (PySem.W.fnOf "all_starts" "all_starts" (defArgs s_all_starts) (defBody s_all_starts) (defScope s_all_starts) .none kV19 dc19 pm19 an19 cd19 ct19), sl19⟩)
    (c19 : PySem.W.codeIn K cd19 "all_starts" = true)
    (k19 : PySem.W.keepIn K (.ref f19) = true)
    (a20 : PySem.W.nsIn K mainGlobals "settled_end" = some (some (.ref f20)))
    (l20 : K.lookup f20 = some ⟨oc20, od20, .func (PySem.W.fnOf "settled_end" "settled_end" (defArgs s_settled_end) (defBody s_settled_end) (defScope s_settled_end) .none kV20 dc20 pm20 an20 cd20 ct20), sl20⟩)
    (c20 : PySem.W.codeIn K cd20 "settled_end" = true)
    (k20 : PySem.W.keepIn K (.ref f20) = true)
    (a21 : PySem.W.nsIn K mainGlobals "held_words" = some (some (.ref f21)))
    (l21 : K.lookup f21 = some ⟨oc21, od21, .func (PySem.W.fnOf "held_words" "held_words" (defArgs s_held_words) (defBody s_held_words) (defScope s_held_words) .none kV21 dc21 pm21 an21 cd21 ct21), sl21⟩)
    (c21 : PySem.W.codeIn K cd21 "held_words" = true)
    (k21 : PySem.W.keepIn K (.ref f21) = true)
    (a22 : PySem.W.nsIn K mainGlobals "law" = some (some (.ref f22)))
    (l22 : K.lookup f22 = some ⟨oc22, od22, .func (PySem.W.fnOf "law" "law" (defArgs s_law) (defBody s_law) (defScope s_law) .none kV22 dc22 pm22 an22 cd22 ct22), sl22⟩)
    (c22 : PySem.W.codeIn K cd22 "law" = true)
    (k22 : PySem.W.keepIn K (.ref f22) = true)
    : ∃ fd : FuncData, (∀ (s : Shared) (u : Value), BindsTo s fd ⟨[u], []⟩ [("_law_script", u)]) ∧ ∀ base : Heap, K.In base → base.Ns mainGlobals mg → FnG P w K mg base CX0 7 fa fd ["_law_script"] (spLaw K) := by
  have B : Blt mg := ⟨PySem.W.mg_none_of X G z0, PySem.W.mg_none_of X G z1, PySem.W.mg_none_of X G z2, PySem.W.mg_none_of X G z3, PySem.W.mg_none_of X G z4, PySem.W.mg_none_of X G z5, PySem.W.mg_none_of X G z6, PySem.W.mg_none_of X G z7, PySem.W.mg_none_of X G z8, PySem.W.mg_none_of X G z9, PySem.W.mg_none_of X G z10, PySem.W.mg_none_of X G z11, PySem.W.mg_none_of X G z12, PySem.W.mg_none_of X G z13, PySem.W.mg_none_of X G z14, PySem.W.mg_none_of X G z15, PySem.W.mg_none_of X G z16, PySem.W.mg_none_of X G z17, PySem.W.mg_none_of X G z18, PySem.W.mg_none_of X G z19, PySem.W.mg_none_of X G z20⟩
  have T : TabC K mg CT := ⟨PySem.W.mg_of X G aT, ⟨tpg, thd, tpo, tsa⟩, tn0, tn1, tn2, tn3⟩
  have S0 := stands_mk X G a0 l0 c0 k0
  have S1 := stands_mk X G a1 l1 c1 k1
  have S2 := stands_mk X G a2 l2 c2 k2
  have S3 := stands_mk X G a3 l3 c3 k3
  have S4 := stands_mk X G a4 l4 c4 k4
  have S5 := stands_mk X G a5 l5 c5 k5
  have S6 := stands_mk X G a6 l6 c6 k6
  have S7 := stands_mk X G a7 l7 c7 k7
  have S8 := istands_mk (st := s_Table_init) tmk tkc a8 i8 l8 c8 k8
  have S9 := stands_mk X G a9 l9 c9 k9
  have S10 := stands_mk X G a10 l10 c10 k10
  have S11 := mstands_mk (st := s_Table_grow) a11 i11 l11 c11 k11
  have S12 := stands_mk X G a12 l12 c12 k12
  have S13 := stands_mk X G a13 l13 c13 k13
  have S14 := stands_mk X G a14 l14 c14 k14
  have S15 := stands_mk X G a15 l15 c15 k15
  have S16 := stands_mk X G a16 l16 c16 k16
  have S17 := stands_mk X G a17 l17 c17 k17
  have S18 := stands_mk X G a18 l18 c18 k18
  have S19 := stands_mk X G a19 l19 c19 k19
  have S20 := stands_mk X G a20 l20 c20 k20
  have S21 := stands_mk X G a21 l21 c21 k21
  have S22 := stands_mk X G a22 l22 c22 k22
  obtain ⟨fd, F, hb⟩ := law_fd (x := "_law_script") S22 hfa (fun _ _ _ _ _ _ _ => rfl)
  refine ⟨fd, hb, fun base _ _ => ?_⟩
  have d0 := ok_draws3 (P := P) (w := w) (base := base) S0 B
  have d1 := ok_below3 (P := P) (w := w) (base := base) S1 B
  have d2 := ok_pick3 (P := P) (w := w) (base := base) S2 B d1
  have d3 := ok_text3 (P := P) (w := w) (base := base) S3 B d1 d2
  have d4 := ok_futs3 (P := P) (w := w) (base := base) S4 B
  have d5 := ok_solved (P := P) (w := w) (base := base) S5 B
  have d6 := ok_ends3 (P := P) (w := w) (base := base) S6 B d5
  have d7 := ok_settled3 (P := P) (w := w) (base := base) S7 B d4 d6
  have d8 := ok_Table_init (P := P) (w := w) (base := base) T S8
  have d9 := ok_last_lines (P := P) (w := w) (base := base) S9 B
  have d10 := ok_cheapest (P := P) (w := w) (base := base) S10 B
  have d11 := ok_Table_grow (P := P) (w := w) (base := base) T S11 B d9 d10
  have d12 := ok_table_of (P := P) (w := w) (base := base) T S12 B d8 d11
  have d13 := ok_crossings (P := P) (w := w) (base := base) T S13 B
  have d14 := ok_ranges (P := P) (w := w) (base := base) S14 B d13
  have d15 := ok_climit (P := P) (w := w) (base := base) S15 B
  have d16 := ok_cranges (P := P) (w := w) (base := base) S16 B d14 d15
  have d17 := ok_olimit (P := P) (w := w) (base := base) S17 B
  have d18 := ok_oranges (P := P) (w := w) (base := base) S18 B d14 d17
  have d19 := ok_allstarts (P := P) (w := w) (base := base) S19 B d16 d18
  have d20 := ok_setend (P := P) (w := w) (base := base) T S20 B d19
  have d21 := ok_held (P := P) (w := w) (base := base) S21 B d12 d20
  exact ok_law F B d0 d1 d3 d7 d21
end Lt33

open PySem PySem.W PyProof.Rows in
set_option maxRecDepth 100000 in
set_option maxHeartbeats 0 in
theorem PySem.Challenge.cw_settledlines_k33_held_words_holds : PySem.Challenge.rw_settledlines_k33_held_words.Holds := by
  w_on; o_law; k_head; (case hw => w_witness2)
  k_fill
  refine SL.walkG (l := PySem.Challenge.rw_settledlines_k33_held_words) (n := 63) (k := 7) (x := "_law_script") (sp := SL.spLaw) rfl (by decide) rfl ⟨rfl, by decide, by decide⟩ (fun w h Y => PySem.W.kIn_of Y) ?F (fun K H a ns hl hS => ⟨a, ns, rfl, hS, hl, fun _ => rfl⟩)
  case F =>
    intro w mg fa h KX G hmg
    refine' Lt33.all_top KX G hmg ?z0 ?z1 ?z2 ?z3 ?z4 ?z5 ?z6 ?z7 ?z8 ?z9 ?z10 ?z11 ?z12 ?z13 ?z14 ?z15 ?z16 ?z17 ?z18 ?z19 ?z20 ?aT ?tpg ?thd ?tpo ?tsa ?tmk ?tkc ?tn0 ?tn1 ?tn2 ?tn3 ?a0 ?l0 ?c0 ?k0 ?a1 ?l1 ?c1 ?k1 ?a2 ?l2 ?c2 ?k2 ?a3 ?l3 ?c3 ?k3 ?a4 ?l4 ?c4 ?k4 ?a5 ?l5 ?c5 ?k5 ?a6 ?l6 ?c6 ?k6 ?a7 ?l7 ?c7 ?k7 ?a8 ?i8 ?l8 ?c8 ?k8 ?a9 ?l9 ?c9 ?k9 ?a10 ?l10 ?c10 ?k10 ?a11 ?i11 ?l11 ?c11 ?k11 ?a12 ?l12 ?c12 ?k12 ?a13 ?l13 ?c13 ?k13 ?a14 ?l14 ?c14 ?k14 ?a15 ?l15 ?c15 ?k15 ?a16 ?l16 ?c16 ?k16 ?a17 ?l17 ?c17 ?k17 ?a18 ?l18 ?c18 ?k18 ?a19 ?l19 ?c19 ?k19 ?a20 ?l20 ?c20 ?k20 ?a21 ?l21 ?c21 ?k21 ?a22 ?l22 ?c22 ?k22
    (case z0 => k_is)
    (case z1 => k_is)
    (case z2 => k_is)
    (case z3 => k_is)
    (case z4 => k_is)
    (case z5 => k_is)
    (case z6 => k_is)
    (case z7 => k_is)
    (case z8 => k_is)
    (case z9 => k_is)
    (case z10 => k_is)
    (case z11 => k_is)
    (case z12 => k_is)
    (case z13 => k_is)
    (case z14 => k_is)
    (case z15 => k_is)
    (case z16 => k_is)
    (case z17 => k_is)
    (case z18 => k_is)
    (case z19 => k_is)
    (case z20 => k_is)
    (case aT => k_is)
    (case tpg => k_is)
    (case thd => k_is)
    (case tpo => k_is)
    (case tsa => k_is)
    (case tmk => k_is)
    (case tkc => k_is)
    (case tn0 => k_is)
    (case tn1 => k_is)
    (case tn2 => k_is)
    (case tn3 => k_is)
    (case a0 => k_is)
    (case l0 => k_is)
    (case c0 => k_is)
    (case k0 => k_is)
    (case a1 => k_is)
    (case l1 => k_is)
    (case c1 => k_is)
    (case k1 => k_is)
    (case a2 => k_is)
    (case l2 => k_is)
    (case c2 => k_is)
    (case k2 => k_is)
    (case a3 => k_is)
    (case l3 => k_is)
    (case c3 => k_is)
    (case k3 => k_is)
    (case a4 => k_is)
    (case l4 => k_is)
    (case c4 => k_is)
    (case k4 => k_is)
    (case a5 => k_is)
    (case l5 => k_is)
    (case c5 => k_is)
    (case k5 => k_is)
    (case a6 => k_is)
    (case l6 => k_is)
    (case c6 => k_is)
    (case k6 => k_is)
    (case a7 => k_is)
    (case l7 => k_is)
    (case c7 => k_is)
    (case k7 => k_is)
    (case a8 => k_is)
    (case i8 => k_is)
    (case l8 => k_is)
    (case c8 => k_is)
    (case k8 => k_is)
    (case a9 => k_is)
    (case l9 => k_is)
    (case c9 => k_is)
    (case k9 => k_is)
    (case a10 => k_is)
    (case l10 => k_is)
    (case c10 => k_is)
    (case k10 => k_is)
    (case a11 => k_is)
    (case i11 => k_is)
    (case l11 => k_is)
    (case c11 => k_is)
    (case k11 => k_is)
    (case a12 => k_is)
    (case l12 => k_is)
    (case c12 => k_is)
    (case k12 => k_is)
    (case a13 => k_is)
    (case l13 => k_is)
    (case c13 => k_is)
    (case k13 => k_is)
    (case a14 => k_is)
    (case l14 => k_is)
    (case c14 => k_is)
    (case k14 => k_is)
    (case a15 => k_is)
    (case l15 => k_is)
    (case c15 => k_is)
    (case k15 => k_is)
    (case a16 => k_is)
    (case l16 => k_is)
    (case c16 => k_is)
    (case k16 => k_is)
    (case a17 => k_is)
    (case l17 => k_is)
    (case c17 => k_is)
    (case k17 => k_is)
    (case a18 => k_is)
    (case l18 => k_is)
    (case c18 => k_is)
    (case k18 => k_is)
    (case a19 => k_is)
    (case l19 => k_is)
    (case c19 => k_is)
    (case k19 => k_is)
    (case a20 => k_is)
    (case l20 => k_is)
    (case c20 => k_is)
    (case k20 => k_is)
    (case a21 => k_is)
    (case l21 => k_is)
    (case c21 => k_is)
    (case k21 => k_is)
    (case a22 => k_is)
    (case l22 => k_is)
    (case c22 => k_is)
    (case k22 => k_is)

