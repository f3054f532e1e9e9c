import PyProof.Rows.All
import Wide.All
import OpenK.AllK
import Wide.FinOn
import PyProof.EqAt
import PyProof.EqKinds
import PyProof.TupleCall
import HandS.ForMost
import HandS.Wide
import HandS.WideBits
import HandS.IsInst
import HandS.TupMul
import HandS.TupAny
import HandS.Style
import HandS.Conv
import HandS.Evl
import HandS.Rev
import PySem.Challenge.RW_greenroads_k01_green_moments
set_option Elab.async false
set_option linter.all false
set_option maxRecDepth 100000
set_option maxHeartbeats 2000000
/-! Defs under which no guard stands (so that repr of lists may be asked), and rules that the layer lacks. -/
namespace Gr
open PySem PySem.Spec PyProof.Rows L2

/-- no repr is under way around the call -/
abbrev Free (A : Around) : Prop := A.guards = some []
theorem Free.deep {A : Around} (h : Free A) (env : Env) : Free (A.deeper env) := h

structure FnG (P : Program) (w : World) (K : PySem.W.Frag) (mg : Str → Option Value) (base : Heap) (C : CXT) (k : Nat) (f : Addr) (fd : FuncData) (ps : List Str) (sp : Sp) : Prop where
  sized : ∀ xs G Z E, sp xs G Z E → xs.length = ps.length
  go : ∀ (A : Around) (envs : List Env) (st : Shared) (G : Hp) (ar : Args) (vals : List Value) (xs : List V) (Z : VK) (E : XK), Free A → Room k A → Env0 P w K mg base A envs st G →
    BindsTo st fd ar (ps.zip vals) → Vals xs vals → sp xs G Z E → codeAny (model P w) A (.call (.ref f) ar) (CR C envs P w G st Z E) st

section
variable {P : Program} {w : World} {K : PySem.W.Frag} {mg : Str → Option Value} {base : Heap} {C : CXT} {k : Nat} {f : Addr} {fd : FuncData} {ps : List Str} {sp : Sp}
theorem FnG.ofOk (F : FnOk P w K mg base C k f fd ps sp) : FnG P w K mg base C k f fd ps sp := ⟨F.len, fun A o st G ar vals xs Z E _ => F.run A o st G ar vals xs Z E⟩

theorem fnG_body {name qual : Str} {params : Arguments} {body : List Stmt} {sc : Scope} {dV kV doc pm cdv ct oc : Value} {an od : Option Addr} {osl : Array (Option Value)} {N : List Str}
    (lk : K.lookup f = some ⟨oc, od, .func (PySem.W.fnOf name qual params body sc dV kV doc pm an cdv ct), osl⟩) (hc : PySem.W.codeIn K cdv qual = true) (S : FnScope N ps sc) (sized : ∀ xs G Z E, sp xs G Z E → xs.length = ps.length)
    (hb : ∀ (A : Around) (envs : List Env) (st : Shared) (G : Hp) (xs : List V) (Z : VK) (E : XK), Free A → Room k (A.deeper (envOfC qual sc st.heap.objs.size f cdv)) → sp xs G Z E →
      ∃ t, PSs (cxOf C P w K mg base N qual sc f cdv A envs st G E) body t ∧ t { nx := fun _ G' => Z .non G', rt := Z } (start N xs) G) :
    FnG P w K mg base C (k + 1) f (PySem.W.fnOf name qual params body sc dV kV doc pm an cdv ct) ps sp where
  sized := sized
  go := by
    intro A envs st G ar vals xs Z E hf room e0 bt rv want
    have kin : K.In st.heap := e0.mod.kin.keeps (fun b o q => (e0.bs b o q).1)
    have nl : st.heap.NoLimit := e0.mod.nolimit.keeps (fun b o q => (e0.bs b o q).1)
    have kinds : ∀ q ∈ ps.zip vals, sc.names.lookup q.1 = some .local ∨ (sc.names.lookup q.1 = some .cell ∧ ((cellsFrom (st.heap.objs.size + 1) sc.names []).lookup q.1).isSome = true) := by
      rintro ⟨n, v⟩ hq
      cases S.par n (List.of_mem_zip hq).1 with
      | inl h => exact Or.inl h
      | inr h => exact Or.inr ⟨h, PySem.W.cellsFrom_some _ _ _ (Or.inl h)⟩
    apply codeAny_call_function room.depth (kin _ _ lk) rfl S.co S.gen rfl (PySem.W.codeRec_of kin hc)
    apply bt
    apply wpAny_newFunctionEnv_cells S.kind kinds
    intro env he s1 x
    cases he
    refine ⟨nl.keeps x.toInCall.keep, codeAny_func ?_⟩
    obtain ⟨t, ht, hq⟩ := hb A envs st G xs Z E hf (room.deeper _) want
    have J0 : Inv (cxOf C P w K mg base N qual sc f cdv A envs st G E) [] (start N xs) G s1 := inv_start S room.hd e0 (sized _ _ _ _ want) rv x
    apply wpAny_mono (ht.run [] s1 (start N xs) G _ J0 hq) _ (fun _ _ h => h)
    intro fl s2 hs
    cases fl with
    | ret u =>
      obtain ⟨v, τ, G2, J, r2, q2⟩ := hs
      exact ⟨v, G2, J.os, J.bare, J.base, J.hok, r2, q2⟩
    | next =>
      obtain ⟨τ, G2, J, q2⟩ := hs
      exact ⟨.non, G2, J.os, J.bare, J.base, J.hok, rfl, q2⟩
    | brk => exact (hs.elim fun _ h => h.elim fun _ h => h.2).elim
    | cont => exact (hs.elim fun _ h => h.elim fun _ h => h.2).elim

/-- a def by its body, guards known -/
theorem okG {x qual : Str} {st : Stmt} {N : List Str} (F : Fun K x qual st f fd) (S : FnScope N ps (defScope st)) (sized : ∀ xs G Z E, sp xs G Z E → xs.length = ps.length)
    (hb : ∀ (cdv : Value) (A : Around) (envs : List Env) (s : Shared) (G : Hp) (xs : List V) (Z : VK) (E : XK), Free A → Room k (A.deeper (envOfC qual (defScope st) s.heap.objs.size f cdv)) → sp xs G Z E →
      ∃ t, PSs (cxOf CX0 P w K mg base N qual (defScope st) f cdv A envs s G E).nox (defBody st) t ∧ t { nx := fun _ G' => Z .non G', rt := Z } (start N xs) G) : FnG P w K mg base CX0 (k + 1) f fd ps sp := by
  obtain ⟨oc, od, kV, doc, pm, an, cdv, ct, osl, rfl, lk, hcd⟩ := F.ex
  apply fnG_body lk hcd S sized
  intro A envs s G xs Z E hf hr hs
  obtain ⟨t, h, q⟩ := hb cdv A envs s G xs Z E hf hr hs
  exact ⟨t, h.nox, q⟩
end

section
variable {X : Cx} {C : CXT} {k : Nat} {f : Addr} {fd : FuncData} {ps : List Str} {sp : Sp} {dvs : List V} {ds : List Value} {E : XK} {x : Str} {p pos : Pos} {e : Expr} {es : List Expr} {t : TA}
theorem pe_callG (F : FnG X.prog X.w X.K X.mg X.base C k f fd ps sp) (hf : Free X.A) (hr : Room k X.A) (hg : Gl X x) (hm : X.mg x = some (.ref f)) (hk : PySem.W.keepIn X.K (.ref f) = true) (hb : Binds X.K fd ps ds) (hd : Vals dvs ds)
    (hx : Passes C X E) (ha : PA X (e :: es) t) (hdb : (x == ("__debug__" : Str)) = false := by decide) (he : starEach (e :: es) X.env = (false, eval e X.env) :: starEach es X.env := by rfl)
    (hpl : (backTo pos (starEach es X.env)).any (·.1) = false := by rfl) : PE X (.Call (.Name x p) (e :: es) [] pos) (tCall sp dvs E t) where
  run := by
    intro pins s σ H Q I h
    apply wpAny_Call_Name_kw
    apply ld_glob I hg hm _ hdb
    apply PySem.W.callWith_K (h₀ := X.base) I.ok.mod.kin hk _ he hpl
    apply thn (ha.run pos pins s σ H _ I h)
    rintro us s1 ⟨vs, H1, I1, r, q⟩
    have both : Vals (vs ++ dvs) (us ++ ds) := r.append hd
    have many : (us ++ ds).length = ps.length := both.length.symm.trans (F.sized _ _ _ _ q)
    refine ⟨I1.kIn, wpAny_call (codeAny_mono (F.go X.A X.stack s1 H1 ⟨us, []⟩ (us ++ ds) (vs ++ dvs) Q E hf hr I1.env0 (hb s1 us I1.kIn many) both q) ?_)⟩
    intro res s2 hq
    match res, hq with
    | .ok (.ret u), hq => exact I1.after hq
    | .error err, hq => exact hx pins σ H1 s1 err s2 I1 hq
end

/-! ### rules -/
section
variable {X : Cx}
def CPowW (i j : Int) : Prop := 0 ≤ j ∧ (Builtin.Int.intBits i : Int) * j ≤ 2 ^ 27
theorem op_powW : OpR X (binaryOp .Pow) (rI CPowW fun i j => .int (i ^ j.toNat)) := opI fun _ _ _ _ _ _ _ hc q => pow_int hc.1 hc.2 q
theorem bits_le {i : Int} {n : Nat} (h : i.natAbs < 2 ^ n) (h0 : 0 < n) : Builtin.Int.intBits i ≤ n := by
  have a := PySem.Flt.log2_lt_of h0 h
  unfold Builtin.Int.intBits
  split <;> omega
theorem cube_ok {i : Int} (h : i.natAbs < 2 ^ 1000) : CPowW i 3 := by
  have a := bits_le h (by decide)
  exact ⟨by decide, by omega⟩

/-- repr of a list, a tuple, what lies in them -/
def rRepr (K : PySem.W.Frag) : List V → Hp → VK → Prop := fun xs H Q => ∃ (a : Addr) (d : PyData), xs = [.ref a] ∧ Dp K H (.ref a) d ∧ d.showable = true ∧ d.hasDict = false ∧ d.depth ≤ 40 ∧ d.shown.length ≤ sizeLine ∧ Q (.str d.shown) H
theorem call_reprD (hf : Free X.A) (hu : X.A.units + 64 < cLine) : CallR X (.builtin "repr") (rRepr X.K) := by
  rintro pins s σ H xs us Q I r ⟨a, d, rfl, hD, hs, hd, h20, hz, q⟩
  obtain ⟨u, rfl, hr⟩ := vals1 r
  cases (show u = Value.ref a from hr)
  obtain ⟨as, rd⟩ := Dp.reads I d (.ref a) (.ref a) hD rfl
  exact repr_of_reads' rd hs (fun e => by rw [hd] at e; cases e) hf (by omega) (fun _ _ e => e) (fun h' u tk hk => ⟨.str d.shown, H, I.kept hk, ⟨u, rfl⟩, q⟩) hz
end

/-! ### the law's own call -/
section
variable {P : Program} {w : World} {K : PySem.W.Frag} {mg mb : Str → Option Value} {k : Nat} {fa a : Addr} {fd : FuncData} {x : Str} {sp : Sp} {st : Shared} {vs : List Value} {ns : List Int}
/-- behind the top: the heap with what G tracks hidden is a module's base -/
theorem base_mod {G : Hp} (kin : K.In st.heap) (hg : st.heap.Ns mainGlobals mg) (hb : st.heap.Ns builtinsNs mb) (hbb : ∀ y : Str, y ≠ "__name__" → mb y = bootBuiltins y) (nl : st.heap.NoLimit)
    (notD : ∀ b o es ep, st.heap.get? b = some o → o.data = .dict es ep → G b = none) (notK : ∀ b o, K.lookup b = some o → G b = none) :
    K.In (hidT st.heap G) ∧ (hidT st.heap G).Ns mainGlobals mg ∧ Mod K mg (hidT st.heap G) := by
  have nsH : ∀ {b : Addr} {m : Str → Option Value}, st.heap.Ns b m → (hidT st.heap G).Ns b m := by
    rintro b m ⟨o, es, ep, e, d, rest⟩
    exact ⟨o, es, ep, hidT_get e (notD b o es ep e d), d, rest⟩
  have kH : K.In (hidT st.heap G) := fun b o e => hidT_get (kin b o e) (notK b o e)
  obtain ⟨mc, c1, c2⟩ := nl
  exact ⟨kH, nsH hg, kH, nsH hg, ⟨mb, nsH hb, hbb⟩, mc, nsH c1, c2⟩

theorem law_run {G : Hp} (bm : K.In (hidT st.heap G) ∧ (hidT st.heap G).Ns mainGlobals mg ∧ Mod K mg (hidT st.heap G)) (no : st.gens = #[]) (only : Only G) (sq : SqL K G a (ns.map V.int)) (ok : HOk P w G st.heap) (room : Room k callerA)
    (F : ∀ base : Heap, K.In base → base.Ns mainGlobals mg → FnG P w K mg base CX0 k fa fd [x] sp) (bt : ∀ (s : Shared) (u : Value), BindsTo s fd ⟨[u], []⟩ [(x, u)])
    (want : sp [.ref a] G (fun v _ => v = .bl true) fun _ _ _ => False) :
    codeAny (model P w) callerA (.call (.ref fa) ⟨[.ref a], []⟩) (fun r s2 => r = .ok (.ret (.bool true)) ∧ OldK st.heap s2.heap ∧ s2.os = st.os ∧ AllBare s2.gens) st := by
  obtain ⟨b1, b2, b3⟩ := bm
  have e0 : Env0 P w K mg (hidT st.heap G) callerA [] st G :=
    { frames := rfl, mod := b3, bs := fun b o e => of_hidT e, bsz := Nat.le_of_eq (hidT_size _ _), funs := trivial, frf := fun b h => (List.not_mem_nil (show b ∈ ([] : List Addr) from h)).elim, hok := ok, bare := .of_eq no }
  apply codeAny_mono ((F _ b1 b2).go callerA [] st G ⟨[.ref a], []⟩ [.ref a] [.ref a] _ _ rfl room e0 (bt st (.ref a)) (.cons rfl .nil) want)
  intro r s2 h
  match r, h with
  | .ok (.ret u), h =>
    obtain ⟨v, G2, os, bare, un, ok2, rv, q⟩ := h
    cases (show v = .bl true from q)
    cases (show u = Value.bool true from rv)
    refine ⟨rfl, OldK.of_keep (fun b o e => ?_), os, bare⟩
    rcases only b with z | ⟨ob, xs, z⟩
    · exact un.keep b o e z (fun h => (List.not_mem_nil (show b ∈ ([] : List Addr) from h)).elim) (by simp)
    · have e1 := (ok b _ z).1
      have e2 := (ok2 b _ (un.frzs b ob _ z)).1
      rw [e] at e1
      cases e1
      exact e2

theorem law_callG (kin : K.In st.heap) (hg : st.heap.Ns mainGlobals mg) (hb : st.heap.Ns builtinsNs mb) (hbb : ∀ y : Str, y ≠ "__name__" → mb y = bootBuiltins y) (nl : st.heap.NoLimit) (no : st.gens = #[])
    (ha : st.heap.get? a = some { cls := .type "list", data := .seq vs.toArray }) (hi : IntsAre vs ns) (hl : ns.length ≤ sizeLine) (room : Room k callerA)
    (F : ∀ base : Heap, K.In base → base.Ns mainGlobals mg → FnG P w K mg base CX0 k fa fd [x] sp) (bt : ∀ (s : Shared) (u : Value), BindsTo s fd ⟨[u], []⟩ [(x, u)])
    (want : ∀ G : Hp, Only G → SqL K G a (ns.map V.int) → sp [.ref a] G (fun v _ => v = .bl true) fun _ _ _ => False) :
    codeAny (model P w) callerA (.call (.ref fa) ⟨[.ref a], []⟩) (fun r s2 => r = .ok (.ret (.bool true)) ∧ OldK st.heap s2.heap ∧ s2.os = st.os ∧ AllBare s2.gens) st := by
  have rv := vals_ints hi
  cases hk : K.lookup a with
  | some o =>
    have e := kin a o hk
    rw [ha] at e
    cases e
    have sq : SqL K (fun _ => none) a (ns.map V.int) := Or.inr ⟨_, vs.toArray, _, hk, rfl, rfl, rfl, by rw [List.size_toArray, hi.length]; exact hl, by simpa using rv⟩
    exact law_run (G := fun _ => none) (base_mod kin hg hb hbb nl (fun _ _ _ _ _ _ => rfl) fun _ _ _ => rfl) no (fun _ => Or.inl rfl) sq (fun b u z => nomatch (show (none : Option HO) = some u from z)) room F bt (want _ (fun _ => Or.inl rfl) sq)
  | none =>
    have at1 : (fun b => if b = a then some (HO.frz { cls := .type "list", data := .seq vs.toArray } (.lst (ns.map V.int))) else none : Hp) a = some (HO.frz { cls := .type "list", data := .seq vs.toArray } (.lst (ns.map V.int))) := if_pos rfl
    generalize hG : (fun b => if b = a then some (HO.frz { cls := .type "list", data := .seq vs.toArray } (.lst (ns.map V.int))) else none : Hp) = G at at1
    have at0 : ∀ b, b ≠ a → G b = none := fun b hb => by rw [← hG]; exact if_neg hb
    have sq : SqL K G a (ns.map V.int) := Or.inl (Or.inr ⟨_, at1⟩)
    have only : Only G := fun b => by
      by_cases hb : b = a
      · exact Or.inr ⟨_, _, hb ▸ at1⟩
      · exact Or.inl (at0 b hb)
    refine law_run (base_mod kin hg hb hbb nl (fun b o es ep e d => ?_) fun b o e => ?_) no only sq (fun b u z => ?_) room F bt (want _ only sq)
    · by_cases hb : b = a
      · rw [hb, ha] at e
        cases e
        cases (show Data.seq vs.toArray _ = Data.dict es ep from d)
      · exact at0 b hb
    · exact at0 b (fun hb => by rw [hb, hk] at e; cases e)
    · by_cases hb : b = a
      · subst hb
        rw [at1] at z
        cases z
        exact ⟨ha, by rw [List.length_map]; exact hl, vs, _, rv, ha⟩
      · rw [at0 b hb] at z
        cases z
end

theorem walkG {l : PySem.W.OpenLaw} {n k : Nat} {q : Program} {loose : List Str} {XP : (Str → Option Value) → Heap → Prop} {YP : World → Heap → Prop} {d : DefRec} {K : Params → PySem.W.Frag} {sp : PySem.W.Frag → Sp} {x : Str}
    (hn : l.most = some n) (hn2 : n ≤ sizeLine) (hdf : d.params.defaults = []) (hr : Room k callerA) (hY : ∀ (w : World) (h : Heap), YP w h → (K w.params).In h)
    (F : ∀ (w : World) (mg : Str → Option Value) (fa : Addr) (h : Heap), (K w.params).In h → h.Ns mainGlobals mg → mg d.name = some (.ref fa) →
      ∃ fd : FuncData, (∀ (s : Shared) (u : Value), BindsTo s fd ⟨[u], []⟩ [(x, u)]) ∧ ∀ base : Heap, (K w.params).In base → base.Ns mainGlobals mg → FnG l.prog w (K w.params) mg base CX0 k fa fd [x] (sp (K w.params)))
    (hsp : ∀ (K : PySem.W.Frag) (G : Hp) (a : Addr) (ns : List Int), ns.length ≤ n → Only G → SqL K G a (ns.map V.int) → sp K [.ref a] G (fun v _ => v = .bl true) fun _ _ _ => False) :
    PySem.W.WalkO q loose XP YP l.row.toRowW d [] (fun f vs => PySem.call f vs) := by
  apply Att.attach_call hn hdf
  intro w s₀ s₁ mg mb fa o pm cd doc a vs ns G Y ho hd hcd hmg hobj hints hlen hg
  have kin := hY w _ Y
  obtain ⟨fd, hb, hF⟩ := F w mg fa _ kin G.T.g hmg
  exact law_callG kin G.T.g G.T.b G.T.builtins G.T.nolimit hg hobj hints (Nat.le_trans hlen hn2) hr hF hb (fun H hO hS => hsp (K w.params) H a ns hlen hO hS)
end Gr

set_option Elab.async false
set_option linter.all false
set_option pp.deepTerms false
set_option pp.maxSteps 3000
set_option maxRecDepth 100000
set_option maxHeartbeats 4000000
namespace Gr
open PySem PySem.Spec PyProof.Rows L2
def topS (i : Nat) : Stmt := PySem.Challenge.pw_greenroads_k01_green_moments.main.body.getD i (.Pass ⟨0, 0, 0, 0⟩)
abbrev s_is_whole : Stmt := topS 7
theorem scis_whole : FnScope ["value"] ["value"] (defScope s_is_whole) := ⟨rfl, rfl, rfl, by decide +kernel, rfl, by decide +kernel, by decide +kernel⟩
abbrev s_check_cycle : Stmt := topS 8
theorem sccheck_cycle : FnScope ["cycle"] ["cycle"] (defScope s_check_cycle) := ⟨rfl, rfl, rfl, by decide +kernel, rfl, by decide +kernel, by decide +kernel⟩
abbrev s_check_moment : Stmt := topS 9
theorem sccheck_moment : FnScope ["moment"] ["moment"] (defScope s_check_moment) := ⟨rfl, rfl, rfl, by decide +kernel, rfl, by decide +kernel, by decide +kernel⟩
abbrev s_is_green_pair : Stmt := topS 12
theorem scis_green_pair : FnScope ["value", "cycle", "offset", "length"] ["value", "cycle"] (defScope s_is_green_pair) := ⟨rfl, rfl, rfl, by decide +kernel, rfl, by decide +kernel, by decide +kernel⟩
abbrev s_is_signal : Stmt := topS 13
theorem scis_signal : FnScope ["value", "cycle", "green"] ["value", "cycle"] (defScope s_is_signal) := ⟨rfl, rfl, rfl, by decide +kernel, rfl, by decide +kernel, by decide +kernel⟩
abbrev s_check_signal : Stmt := topS 14
theorem sccheck_signal : FnScope ["cycle", "signal"] ["cycle", "signal"] (defScope s_check_signal) := ⟨rfl, rfl, rfl, by decide +kernel, rfl, by decide +kernel, by decide +kernel⟩
abbrev s_is_green : Stmt := topS 15
theorem scis_green : FnScope ["cycle", "signal", "moment", "offset", "length"] ["cycle", "signal", "moment"] (defScope s_is_green) := ⟨rfl, rfl, rfl, by decide +kernel, rfl, by decide +kernel, by decide +kernel⟩
abbrev s_l_pond : Stmt := topS 17
theorem scl_pond : FnScope ["_law_script", "_law_k", "_law_cell"] ["_law_script", "_law_k"] (defScope s_l_pond) := ⟨rfl, rfl, rfl, by decide +kernel, rfl, by decide +kernel, by decide +kernel⟩
abbrev s_l_fish : Stmt := topS 18
theorem scl_fish : FnScope ["_law_pond_here", "_law_bound", "_law_found", "_law_turn", "_law_mixed"] ["_law_pond_here", "_law_bound"] (defScope s_l_fish) := ⟨rfl, rfl, rfl, by decide +kernel, rfl, by decide +kernel, by decide +kernel⟩
abbrev s_l_greens : Stmt := topS 19
theorem scl_greens : FnScope ["_law_pond_here", "_law_span", "_law_found", "_law_turn", "_law_place", "_law_few", "_law_many"] ["_law_pond_here", "_law_span"] (defScope s_l_greens) := ⟨rfl, rfl, rfl, by decide +kernel, rfl, by decide +kernel, by decide +kernel⟩
abbrev s_l_rests : Stmt := topS 20
theorem scl_rests : FnScope ["_law_span", "_law_greens_here", "_law_found", "_law_place", "_law_size", "_law_j"] ["_law_span", "_law_greens_here"] (defScope s_l_rests) := ⟨rfl, rfl, rfl, by decide +kernel, rfl, by decide +kernel, by decide +kernel⟩
abbrev s_l_scaled : Stmt := topS 21
theorem scl_scaled : FnScope ["_law_greens_here", "_law_factor", "_law_place", "_law_size"] ["_law_greens_here", "_law_factor"] (defScope s_l_scaled) := ⟨rfl, rfl, rfl, by decide +kernel, rfl, by decide +kernel, by decide +kernel⟩
abbrev s_l_right : Stmt := topS 22
theorem scl_right : FnScope ["_law_pond_here", "_law_span", "_law_greens_here", "_law_lit", "_law_due", "_law_t", "_law_factor", "_law_great", "_law_told", "_law_turn", "_law_far", "_law_rest"] ["_law_pond_here", "_law_span", "_law_greens_here"] (defScope s_l_right) := ⟨rfl, rfl, rfl, by decide +kernel, rfl, by decide +kernel, by decide +kernel⟩
abbrev s_law : Stmt := topS 23
theorem sclaw : FnScope ["_law_script", "_law_k", "_law_pond_here", "_law_turn", "_law_span", "_law_greens_here", "_law_told", "_law_one", "_law_other", "_law_some", "_law_deep"] ["_law_script"] (defScope s_law) := ⟨rfl, rfl, rfl, by decide +kernel, rfl, by decide +kernel, by decide +kernel⟩
/-- what the text has at the top beside its defs -/
structure Blt (mg : Str → Option Value) (tMOST_CYCLE : Tok) (tMOST_GREENS : Tok) : Prop where
  n_all : mg "all" = none
  n_any : mg "any" = none
  n_bool : mg "bool" = none
  n_int : mg "int" = none
  n_isinstance : mg "isinstance" = none
  len : mg "len" = none
  n_list : mg "list" = none
  n_max : mg "max" = none
  n_min : mg "min" = none
  range : mg "range" = none
  n_repr : mg "repr" = none
  n_tuple : mg "tuple" = none
  MOST_CYCLE : mg "MOST_CYCLE" = some (.int (10 ^ 30) tMOST_CYCLE)
  MOST_GREENS : mg "MOST_GREENS" = some (.int 6 tMOST_GREENS)
/-- a def that stands under its name -/
structure Def (K : PySem.W.Frag) (mg : Str → Option Value) (x : Str) (st : Stmt) (ps : List Str) (f : Addr) (fd : FuncData) : Prop where
  F : Fun K x x st f fd
  g : mg x = some (.ref f)
  b : Binds K fd ps []
theorem Same.new {H : Hp} {p : Addr} {o : HO} (h : H p = none) : Same H (upd H p o) := fun b u e => by
  rw [upd_ne (ne_of_none e h)]; exact e

/-! ### the checks and is_green -/
def spWhole : Sp := fun vs H Q _ => ∃ i : Int, vs = [.int i] ∧ Q (.bl true) H
def spCycle : Sp := fun vs H Q _ => ∃ c : Int, vs = [.int c] ∧ 1 ≤ c ∧ c ≤ 10 ^ 30 ∧ Q .non H
def spMoment : Sp := fun vs H Q _ => ∃ c : Int, vs = [.int c] ∧ Q .non H
def pairB (c o l : Int) : Bool := decide (0 ≤ o) && decide (o < c) && decide (1 ≤ l) && decide (l ≤ c)
/-- what is_green_pair says of x -/
def PairK (H : Hp) (c : Int) (x : V) (b : Bool) : Prop :=
  (∃ a o l, x = .ref a ∧ H a = some (.tup [.int o, .int l]) ∧ b = pairB c o l) ∨ (∃ a ys, x = .ref a ∧ H a = some (.tup ys) ∧ ys.length ≠ 2 ∧ b = false) ∨ (∃ a ys, x = .ref a ∧ H a = some (.lst ys) ∧ b = false)
theorem PairK.mono {H H' : Hp} {c : Int} {x : V} {b : Bool} (s : Same H H') (h : PairK H c x b) : PairK H' c x b := by
  rcases h with ⟨a, o, l, e, h, k⟩ | ⟨a, ys, e, h, k⟩ | ⟨a, ys, e, h, k⟩
  · exact .inl ⟨a, o, l, e, s _ _ h, k⟩
  · exact .inr (.inl ⟨a, ys, e, s _ _ h, k⟩)
  · exact .inr (.inr ⟨a, ys, e, s _ _ h, k⟩)
def SigK (H : Hp) (c : Int) (x : V) (b : Bool) : Prop :=
  (∃ a ys, x = .ref a ∧ H a = some (.lst ys) ∧ b = false) ∨ (∃ a ys, x = .ref a ∧ H a = some (.tup ys) ∧ ¬ (1 ≤ ys.length ∧ ys.length ≤ 6) ∧ b = false) ∨
  (∃ a ys bs, x = .ref a ∧ H a = some (.tup ys) ∧ 1 ≤ ys.length ∧ ys.length ≤ 6 ∧ Paired (PairK H c) ys bs ∧ b = bs.all id)
def spPair : Sp := fun vs H Q _ => ∃ (x : V) (c : Int) (b : Bool), vs = [x, .int c] ∧ PairK H c x b ∧ Q (.bl b) H
def spSignal : Sp := fun vs H Q _ => ∃ (x : V) (c : Int) (b : Bool), vs = [x, .int c] ∧ 1 ≤ c ∧ c ≤ 10 ^ 30 ∧ SigK H c x b ∧ ∀ H', Same H H' → Q (.bl b) H'
def spChkSignal : Sp := fun vs H Q _ => ∃ (x : V) (c : Int), vs = [.int c, x] ∧ 1 ≤ c ∧ c ≤ 10 ^ 30 ∧ SigK H c x true ∧ ∀ H', Same H H' → Q .non H'
def GrAt (H : Hp) (x : V) (g : Int × Int) : Prop := ∃ b, x = .ref b ∧ H b = some (.tup [.int g.1, .int g.2])
def SigT (H : Hp) (a : Addr) (gs : List (Int × Int)) : Prop := ∃ xs, H a = some (.tup xs) ∧ Paired (GrAt H) xs gs
theorem SigT.mono {H H' : Hp} {a : Addr} {gs : List (Int × Int)} (s : Same H H') (h : SigT H a gs) : SigT H' a gs := by
  obtain ⟨xs, h1, h2⟩ := h
  exact ⟨xs, s _ _ h1, L2.Paired.mapP h2 fun x g ⟨b, e, h⟩ => ⟨b, e, s _ _ h⟩⟩
def OkG (c : Int) (gs : List (Int × Int)) : Prop := 1 ≤ gs.length ∧ gs.length ≤ 6 ∧ ∀ g ∈ gs, 0 ≤ g.1 ∧ g.1 < c ∧ 1 ≤ g.2 ∧ g.2 ≤ c
def lit (c : Int) (gs : List (Int × Int)) (m : Int) : Bool := gs.any fun g => decide ((m - g.1) % c < g.2)
def spGreen : Sp := fun vs H Q _ => ∃ (a : Addr) (c m : Int) (gs : List (Int × Int)), vs = [.int c, .ref a, .int m] ∧ 1 ≤ c ∧ c ≤ 10 ^ 30 ∧ SigT H a gs ∧ OkG c gs ∧ ∀ H', Same H H' → Q (.bl (lit c gs m)) H'

theorem paired_at {α β : Type} {R : α → β → Prop} : ∀ {xs : List α} {ys : List β} {i : Nat} {x : α}, Paired R xs ys → xs[i]? = some x → ∃ y, ys[i]? = some y ∧ R x y
  | _, _, _, _, .nil, e => by simp at e
  | _, _, 0, _, .cons r _, e => by simp at e; subst e; exact ⟨_, rfl, r⟩
  | _, _, i + 1, x, .cons _ t, e => by
    obtain ⟨u, h1, h2⟩ := paired_at (i := i) (x := x) t (by simpa using e)
    exact ⟨u, by simpa using h1, h2⟩
theorem paired_len {α β : Type} {R : α → β → Prop} : ∀ {xs : List α} {ys : List β}, Paired R xs ys → xs.length = ys.length
  | _, _, .nil => rfl
  | _, _, .cons _ t => congrArg (· + 1) (paired_len t)
/-- a signal is one by is_signal -/
theorem SigT.sigK {H : Hp} {a : Addr} {c : Int} {gs : List (Int × Int)} (h : SigT H a gs) (hl : 1 ≤ gs.length ∧ gs.length ≤ 6) : SigK H c (.ref a) (gs.all fun g => pairB c g.1 g.2) := by
  obtain ⟨xs, h1, h2⟩ := h
  have el := paired_len h2
  refine .inr (.inr ⟨a, xs, gs.map (fun g => pairB c g.1 g.2), rfl, h1, by omega, by omega, ?_, ?_⟩)
  · clear h1 el hl
    induction h2 with
    | nil => exact .nil
    | cons r t ih =>
      obtain ⟨b, e, h⟩ := r
      exact .cons (.inl ⟨b, _, _, e, h, rfl⟩) ih
  · rw [List.all_map]; rfl
theorem OkG.all {c : Int} {gs : List (Int × Int)} (h : OkG c gs) : (gs.all fun g => pairB c g.1 g.2) = true := by
  rw [List.all_eq_true]
  intro g hg
  have := h.2.2 g hg
  simp [pairB, this]

section
variable {P : Program} {w : World} {K : PySem.W.Frag} {mg : Str → Option Value} {base : Heap} {tC tG : Tok}
theorem ok_is_whole {f : Addr} {fd : FuncData} (B : Blt mg tC tG) (Dis_whole : Def K mg "is_whole" s_is_whole ["value"] f fd) : FnOk P w K mg base CX0 1 f fd ["value"] spWhole := by
  refine Dis_whole.F.ok scis_whole (fun vs H Q E h => ?_) (fun cdv A outer s H vs Q E hr h => ⟨_, (pss_one (ps_ret (pe_and (pe_callB call_isi (by rfl) B.n_isinstance (by decide +kernel) (pa_cons (pv 0) (pa_cons (pe_bltn (v := .ty "int") (u := .type "int") (by rfl) B.n_int (by decide +kernel) rfl) pa_nil))) (pe_one (pe_not (pe_callB call_isi (by rfl) B.n_isinstance (by decide +kernel) (pa_cons (pv 0) (pa_cons (pe_bltn (v := .ty "bool") (u := .type "bool") (by rfl) B.n_bool (by decide +kernel) rfl) pa_nil)))))))), ?_⟩)
  · obtain ⟨i, rfl, _⟩ := h; rfl
  · obtain ⟨i, rfl, q⟩ := h
    refine ⟨_, rfl, .int i, .ty "int", .type "int", .type "int", true, rfl, .ty _, .base (.int i), kit_ty (by decide +kernel), _, rfl, ?_⟩
    refine ⟨_, rfl, .int i, .ty "bool", .type "int", .type "bool", false, rfl, .ty _, .base (.int i), kit_ty (by decide +kernel), _, rfl, q⟩
theorem ok_check_cycle {f f1 : Addr} {fd fd1 : FuncData} (B : Blt mg tC tG) (Dcheck_cycle : Def K mg "check_cycle" s_check_cycle ["cycle"] f fd) (Dis_whole : Def K mg "is_whole" s_is_whole ["value"] f1 fd1) : FnOk P w K mg base CX0 2 f fd ["cycle"] spCycle := by
  have Gis_whole := ok_is_whole (P := P) (w := w) (base := base) B Dis_whole
  refine Dcheck_cycle.F.ok sccheck_cycle (fun vs H Q E h => ?_) (fun cdv A outer s H vs Q E hr h => ⟨_, (pss_one (ps_if (PW.pt (pw_or (pt_not (pt_val (pe_call Gis_whole (hr.mono (by decide)) (by rfl) Dis_whole.g Dis_whole.F.kp Dis_whole.b .nil pass0 (pa_cons (pv 0) pa_nil)))) (pw_or1 (pt_not (pt_chain op_le op_le pe_int (pv 0) (pe_glob (v := .int (10 ^ 30)) (by rfl) B.MOST_CYCLE ⟨_, rfl⟩))))))
   (pss_one ps_never)
   pss_nil)), ?_⟩)
  · obtain ⟨i, rfl, _⟩ := h; rfl
  · obtain ⟨i, rfl, h1, h2, q⟩ := h
    refine ⟨_, rfl, _, rfl, _, rfl, ?_⟩
    refine ⟨_, rfl, _, _, rfl, rfl, _, rfl, ?_⟩
    rw [decide_eq_true h1]
    refine ⟨_, _, rfl, rfl, _, rfl, ?_⟩
    rw [decide_eq_true h2]
    exact q
theorem ok_check_moment {f f1 : Addr} {fd fd1 : FuncData} (B : Blt mg tC tG) (Dcheck_moment : Def K mg "check_moment" s_check_moment ["moment"] f fd) (Dis_whole : Def K mg "is_whole" s_is_whole ["value"] f1 fd1) : FnOk P w K mg base CX0 2 f fd ["moment"] spMoment := by
  have Gis_whole := ok_is_whole (P := P) (w := w) (base := base) B Dis_whole
  refine Dcheck_moment.F.ok sccheck_moment (fun vs H Q E h => ?_) (fun cdv A outer s H vs Q E hr h => ⟨_, (pss_one (ps_if (pt_not (pt_val (pe_call Gis_whole (hr.mono (by decide)) (by rfl) Dis_whole.g Dis_whole.F.kp Dis_whole.b .nil pass0 (pa_cons (pv 0) pa_nil))))
   (pss_one ps_never)
   pss_nil)), ?_⟩)
  · obtain ⟨i, rfl, _⟩ := h; rfl
  · obtain ⟨i, rfl, q⟩ := h
    exact ⟨_, rfl, _, rfl, _, rfl, q⟩
end
end Gr

set_option Elab.async false
set_option linter.all false
set_option pp.deepTerms false
set_option pp.maxSteps 3000
set_option maxRecDepth 100000
set_option maxHeartbeats 4000000
namespace Gr
open PySem PySem.Spec PyProof.Rows L2
theorem iteNT {c A B : Prop} [Decidable c] (hc : ¬ c) (h : A) : if (!decide c) = true then A else B := by
  rw [decide_eq_false hc]; exact iteT h
theorem iteY {c A B : Prop} [Decidable c] (hc : c) (h : A) : if (decide c) = true then A else B := by
  rw [decide_eq_true hc]; exact iteT h
theorem iteN {c A B : Prop} [Decidable c] (hc : ¬ c) (h : B) : if (decide c) = true then A else B := by
  rw [decide_eq_false hc]; exact iteF h
theorem chain_b {a b : Bool} {Q : V → Prop} (h : Q (.bl (a && b))) : ∃ k, V.bl a = .bl k ∧ (if k = true then Q (.bl b) else Q (.bl false)) := ⟨a, rfl, by cases a <;> exact h⟩
section
variable {P : Program} {w : World} {K : PySem.W.Frag} {mg : Str → Option Value} {base : Heap} {tC tG : Tok}
theorem ok_is_green_pair {f f1 : Addr} {fd fd1 : FuncData} (B : Blt mg tC tG) (Dis_green_pair : Def K mg "is_green_pair" s_is_green_pair ["value", "cycle"] f fd) (Dis_whole : Def K mg "is_whole" s_is_whole ["value"] f1 fd1) : FnOk P w K mg base CX0 2 f fd ["value", "cycle"] spPair := by
  have Gis_whole := ok_is_whole (P := P) (w := w) (base := base) B Dis_whole
  refine Dis_green_pair.F.ok scis_green_pair (fun vs H Q E h => ?_) (fun cdv A outer s H vs Q E hr h => ⟨_, (pss_cons (ps_if (PW.pt (pw_or (pt_not (pt_val (pe_callB call_isi (by rfl) B.n_isinstance (by decide +kernel) (pa_cons (pv 0) (pa_cons (pe_bltn (v := .ty "tuple") (u := .type "tuple") (by rfl) B.n_tuple (by decide +kernel) rfl) pa_nil))))) (pw_or1 (pt_cmpR op_ne (pe_callB call_len_seq (by rfl) B.len PySem.boot_len (pa_cons (pv 0) pa_nil)) pe_int (nomark _)))))
   (pss_one (ps_ret pe_bl))
   pss_nil)
  (pss_cons (ps_asg (pv 0) (pg_tup rfl (pgs_cons (pg_name (i := 2) scis_green_pair.nd rfl (Or.inl rfl)) (pgs_cons (pg_name (i := 3) scis_green_pair.nd rfl (Or.inl rfl)) pgs_nil))))
  (pss_one (ps_ret (pe_and (pe_call Gis_whole (hr.mono (by decide)) (by rfl) Dis_whole.g Dis_whole.F.kp Dis_whole.b .nil pass0 (pa_cons (pv 2) pa_nil)) (pe_and (pe_call Gis_whole (hr.mono (by decide)) (by rfl) Dis_whole.g Dis_whole.F.kp Dis_whole.b .nil pass0 (pa_cons (pv 3) pa_nil)) (pe_and (pe_chain op_le op_lt pe_int (pv 2) (pv 1)) (pe_one (pe_chain op_le op_le pe_int (pv 3) (pv 1)))))))))), ?_⟩)
  · obtain ⟨x, c, b, rfl, _⟩ := h; rfl
  · obtain ⟨x, c, b, rfl, hp, q⟩ := h
    rcases hp with ⟨a, o, l, rfl, hT, rfl⟩ | ⟨a, ys, rfl, hT, hl, rfl⟩ | ⟨a, ys, rfl, hT, rfl⟩
    · refine ⟨_, rfl, .ref a, .ty "tuple", .type "tuple", .type "tuple", true, rfl, .ty _, .base (.tup hT), kit_ty (by decide +kernel), _, rfl, ?_⟩
      refine ⟨_, rfl, a, _, rfl, .inr (SqT.of hT), rfl, _, rfl, ?_⟩
      refine iteNS rfl ?_
      refine ⟨_, rfl, a, _, rfl, SqT.of hT, rfl, _, _, rfl, _, _, rfl, rfl, ?_⟩
      refine ⟨_, rfl, o, rfl, _, rfl, ⟨_, rfl, l, rfl, _, rfl, ?_⟩⟩
      by_cases h0 : 0 ≤ o
      · by_cases h1 : o < c
        · refine ⟨_, rfl, _, _, rfl, rfl, true, congrArg V.bl (decide_eq_true h0), _, rfl, _, _, rfl, rfl, true, congrArg V.bl (decide_eq_true h1), ?_⟩
          by_cases h2 : 1 ≤ l
          · refine ⟨_, rfl, _, _, rfl, rfl, true, congrArg V.bl (decide_eq_true h2), _, rfl, _, _, rfl, rfl, ?_⟩
            have e : pairB c o l = decide (l ≤ c) := by simp [pairB, h0, h1, h2]
            rw [e] at q
            exact q
          · have e : pairB c o l = false := by simp [pairB, h2]
            rw [e] at q
            exact ⟨_, rfl, _, _, rfl, rfl, false, congrArg V.bl (decide_eq_false h2), q⟩
        · have e : pairB c o l = false := by simp [pairB, h1]
          rw [e] at q
          exact ⟨_, rfl, _, _, rfl, rfl, true, congrArg V.bl (decide_eq_true h0), _, rfl, _, _, rfl, rfl, false, congrArg V.bl (decide_eq_false h1), q⟩
      · have e : pairB c o l = false := by simp [pairB, h0]
        rw [e] at q
        exact ⟨_, rfl, _, _, rfl, rfl, false, congrArg V.bl (decide_eq_false h0), false, rfl, q⟩
    · refine ⟨_, rfl, .ref a, .ty "tuple", .type "tuple", .type "tuple", true, rfl, .ty _, .base (.tup hT), kit_ty (by decide +kernel), _, rfl, ?_⟩
      refine ⟨_, rfl, a, _, rfl, .inr (SqT.of hT), rfl, _, rfl, ?_⟩
      exact iteNT (fun e => hl (by have := V.int.inj e; omega)) q
    · exact ⟨_, rfl, .ref a, .ty "tuple", .type "list", .type "tuple", false, rfl, .ty _, .base (.lst hT), kit_ty (by decide +kernel), _, rfl, q⟩
theorem ok_is_signal {f f1 f2 f3 : Addr} {fd fd1 fd2 fd3 : FuncData} (B : Blt mg tC tG) (Dis_signal : Def K mg "is_signal" s_is_signal ["value", "cycle"] f fd) (Dis_whole : Def K mg "is_whole" s_is_whole ["value"] f1 fd1) (Dcheck_cycle : Def K mg "check_cycle" s_check_cycle ["cycle"] f2 fd2) (Dis_green_pair : Def K mg "is_green_pair" s_is_green_pair ["value", "cycle"] f3 fd3) : FnOk P w K mg base CX0 3 f fd ["value", "cycle"] spSignal := by
  have Gcheck_cycle := ok_check_cycle (P := P) (w := w) (base := base) B Dcheck_cycle Dis_whole
  have Gis_green_pair := ok_is_green_pair (P := P) (w := w) (base := base) B Dis_green_pair Dis_whole
  refine Dis_signal.F.ok scis_signal (fun vs H Q E h => ?_) (fun cdv A outer s H vs Q E hr h => ⟨_, (pss_cons (ps_expr (pe_call Gcheck_cycle (hr.mono (by decide)) (by rfl) Dcheck_cycle.g Dcheck_cycle.F.kp Dcheck_cycle.b .nil pass0 (pa_cons (pv 1) pa_nil)))
  (pss_cons (ps_if (PW.pt (pw_or (pt_not (pt_val (pe_callB call_isi (by rfl) B.n_isinstance (by decide +kernel) (pa_cons (pv 0) (pa_cons (pe_bltn (v := .ty "tuple") (u := .type "tuple") (by rfl) B.n_tuple (by decide +kernel) rfl) pa_nil))))) (pw_or1 (pt_not (pt_chain op_le op_le pe_int (pe_callB call_len_seq (by rfl) B.len PySem.boot_len (pa_cons (pv 0) pa_nil)) (pe_glob (v := .int 6) (by rfl) B.MOST_GREENS ⟨_, rfl⟩))))))
   (pss_one (ps_ret pe_bl))
   pss_nil)
  (pss_one (ps_ret (pe_callB (cr_all rfl) (by rfl) B.n_all (by decide +kernel) (pa_cons (pe_lc (own := [("green", 2)]) (g := (gName 2)) (tt := tYes) rfl scis_signal.nd (pi_tup (pv 0)) (blkOk_by (N := ["value", "cycle", "green"]) (sc := defScope s_is_signal) (by decide +kernel)) (fun _ _ _ _ _ => (pg_name (i := 2) scis_signal.nd rfl (Or.inl rfl))) (fun _ _ _ _ _ => pts_nil) (fun _ _ _ _ _ => (pe_call Gis_green_pair (hr.mono (by decide)) (by rfl) Dis_green_pair.g Dis_green_pair.F.kp Dis_green_pair.b .nil pass0 (pa_cons (pv 2) (pa_cons (pv 1) pa_nil))))) pa_nil)))))), ?_⟩)
  · obtain ⟨x, c, b, rfl, _⟩ := h; rfl
  · obtain ⟨x, c, b, rfl, c1, c2, hp, q⟩ := h
    refine ⟨_, rfl, c, rfl, c1, c2, ?_⟩
    rcases hp with ⟨a, ys, rfl, hT, rfl⟩ | ⟨a, ys, rfl, hT, hl, rfl⟩ | ⟨a, ys, bs, rfl, hT, l1, l2, hP, rfl⟩
    · exact ⟨_, rfl, .ref a, .ty "tuple", .type "list", .type "tuple", false, rfl, .ty _, .base (.lst hT), kit_ty (by decide +kernel), _, rfl, q _ (Same.refl H)⟩
    · refine ⟨_, rfl, .ref a, .ty "tuple", .type "tuple", .type "tuple", true, rfl, .ty _, .base (.tup hT), kit_ty (by decide +kernel), _, rfl, ?_⟩
      refine ⟨_, rfl, a, _, rfl, .inr (SqT.of hT), _, _, rfl, rfl, ?_⟩
      by_cases h0 : 1 ≤ ys.length
      · refine ⟨true, congrArg V.bl (decide_eq_true (by omega)), _, _, rfl, rfl, false, congrArg V.bl (decide_eq_false (by omega)), ?_⟩
        exact q _ (Same.refl H)
      · refine ⟨false, congrArg V.bl (decide_eq_false (by omega)), false, rfl, ?_⟩
        exact q _ (Same.refl H)
    · refine ⟨_, rfl, .ref a, .ty "tuple", .type "tuple", .type "tuple", true, rfl, .ty _, .base (.tup hT), kit_ty (by decide +kernel), _, rfl, ?_⟩
      refine ⟨_, rfl, a, _, rfl, .inr (SqT.of hT), _, _, rfl, rfl, ?_⟩
      refine ⟨true, congrArg V.bl (decide_eq_true (by omega)), _, _, rfl, rfl, true, congrArg V.bl (decide_eq_true (by omega)), ?_⟩
      have el := paired_len hP
      refine ⟨_, rfl, a, rfl, ⟨_, SqT.of hT⟩, fun D hD => ?_⟩
      refine lc_tup (xs := ys) (fun i H' => Same H H' ∧ H' D = some (.lst ((bs.take i).map V.bl))) ⟨Same.new hD, upd_same⟩ (fun i H' _ p => SqT.of (p.1 _ _ hT)) (fun i x H' hx p => ?_) (fun H' p => ?_)
      · obtain ⟨b, hb, hk⟩ := paired_at hP hx
        refine ⟨rfl, _, rfl, _, rfl, x, c, b, rfl, hk.mono p.1, (bs.take i).map V.bl, p.2, ?_, ?_, ?_⟩
        · rw [List.length_map, List.length_take]
          exact Nat.lt_of_le_of_lt (Nat.min_le_left _ _) (small1000 (by have := (List.getElem?_eq_some_iff.mp hx).1; omega))
        · intro b' o e
          rw [upd_ne (ne_of_none e hD)]
          exact p.1 _ _ e
        · rw [upd_same, List.take_add_one, hb, List.map_append]
          rfl
      · refine ⟨D, bs, rfl, .inl (.inl ?_), q _ p.1⟩
        rw [p.2, List.take_of_length_le (by omega)]
theorem ok_check_signal {f f0 f1 f2 f3 : Addr} {fd fd0 fd1 fd2 fd3 : FuncData} (B : Blt mg tC tG) (Dcheck_signal : Def K mg "check_signal" s_check_signal ["cycle", "signal"] f fd) (Dis_signal : Def K mg "is_signal" s_is_signal ["value", "cycle"] f0 fd0) (Dis_whole : Def K mg "is_whole" s_is_whole ["value"] f1 fd1) (Dcheck_cycle : Def K mg "check_cycle" s_check_cycle ["cycle"] f2 fd2) (Dis_green_pair : Def K mg "is_green_pair" s_is_green_pair ["value", "cycle"] f3 fd3) : FnOk P w K mg base CX0 4 f fd ["cycle", "signal"] spChkSignal := by
  have Gis_signal := ok_is_signal (P := P) (w := w) (base := base) B Dis_signal Dis_whole Dcheck_cycle Dis_green_pair
  refine Dcheck_signal.F.ok sccheck_signal (fun vs H Q E h => ?_) (fun cdv A outer s H vs Q E hr h => ⟨_, (pss_one (ps_if (pt_not (pt_val (pe_call Gis_signal (hr.mono (by decide)) (by rfl) Dis_signal.g Dis_signal.F.kp Dis_signal.b .nil pass0 (pa_cons (pv 1) (pa_cons (pv 0) pa_nil)))))
   (pss_one ps_never)
   pss_nil)), ?_⟩)
  · obtain ⟨x, c, rfl, _⟩ := h; rfl
  · obtain ⟨x, c, rfl, c1, c2, hp, q⟩ := h
    exact ⟨_, rfl, _, rfl, x, c, true, rfl, c1, c2, hp, fun H' s => ⟨_, rfl, q _ s⟩⟩
theorem ok_is_green {f f4 f5 f0 f1 f2 f3 : Addr} {fd fd4 fd5 fd0 fd1 fd2 fd3 : FuncData} (B : Blt mg tC tG) (Dis_green : Def K mg "is_green" s_is_green ["cycle", "signal", "moment"] f fd) (Dcheck_signal : Def K mg "check_signal" s_check_signal ["cycle", "signal"] f4 fd4) (Dcheck_moment : Def K mg "check_moment" s_check_moment ["moment"] f5 fd5) (Dis_signal : Def K mg "is_signal" s_is_signal ["value", "cycle"] f0 fd0) (Dis_whole : Def K mg "is_whole" s_is_whole ["value"] f1 fd1) (Dcheck_cycle : Def K mg "check_cycle" s_check_cycle ["cycle"] f2 fd2) (Dis_green_pair : Def K mg "is_green_pair" s_is_green_pair ["value", "cycle"] f3 fd3) : FnOk P w K mg base CX0 5 f fd ["cycle", "signal", "moment"] spGreen := by
  have Gcheck_signal := ok_check_signal (P := P) (w := w) (base := base) B Dcheck_signal Dis_signal Dis_whole Dcheck_cycle Dis_green_pair
  have Gcheck_moment := ok_check_moment (P := P) (w := w) (base := base) B Dcheck_moment Dis_whole
  refine Dis_green.F.ok scis_green (fun vs H Q E h => ?_) (fun cdv A outer s H vs Q E hr h => ⟨_, (pss_cons (ps_expr (pe_call Gcheck_signal (hr.mono (by decide)) (by rfl) Dcheck_signal.g Dcheck_signal.F.kp Dcheck_signal.b .nil pass0 (pa_cons (pv 0) (pa_cons (pv 1) pa_nil))))
  (pss_cons (ps_expr (pe_call Gcheck_moment (hr.mono (by decide)) (by rfl) Dcheck_moment.g Dcheck_moment.F.kp Dcheck_moment.b .nil pass0 (pa_cons (pv 2) pa_nil)))
  (pss_one (ps_ret (pe_callB (cr_any rfl) (by rfl) B.n_any (by decide +kernel) (pa_cons (pe_lc (own := [("offset", 3), ("length", 4)]) (g := (gTup K 2 (gCons (gName 3) (gCons (gName 4) gNil)))) (tt := tYes) rfl scis_green.nd (pi_tup (pv 1)) (blkOk_by (N := ["cycle", "signal", "moment", "offset", "length"]) (sc := defScope s_is_green) (by decide +kernel)) (fun _ _ _ _ _ => (pg_tup rfl (pgs_cons (pg_name (i := 3) scis_green.nd rfl (Or.inl rfl)) (pgs_cons (pg_name (i := 4) scis_green.nd rfl (Or.inl rfl)) pgs_nil)))) (fun _ _ _ _ _ => pts_nil) (fun _ _ _ _ _ => (pe_cmpR op_lt (pe_op op_modN (pe_op op_sub (pv 2) (pv 3)) (pv 0)) (pv 4) (nomark _)))) pa_nil)))))), ?_⟩)
  · obtain ⟨a, c, m, gs, rfl, _⟩ := h; rfl
  · obtain ⟨a, c, m, gs, rfl, c1, c2, hS, hG, q⟩ := h
    refine ⟨_, rfl, _, rfl, .ref a, c, rfl, c1, c2, hG.all ▸ hS.sigK ⟨hG.1, hG.2.1⟩, fun H1 s1 => ?_⟩
    refine ⟨_, rfl, m, rfl, ?_⟩
    obtain ⟨xs, hT, hP⟩ := hS
    have el := paired_len hP
    have hl := hG.2.1
    refine ⟨_, rfl, a, rfl, ⟨_, SqT.of (s1 _ _ hT)⟩, fun D hD => ?_⟩
    refine lc_tup (xs := xs) (fun i H' => Same H1 H' ∧ H' D = some (.lst ((gs.take i).map fun g => V.bl (decide ((m - g.1) % c < g.2))))) ⟨Same.new hD, upd_same⟩ (fun i H' _ p => SqT.of (p.1 _ _ (s1 _ _ hT))) (fun i x H' hx p => ?_) (fun H' p => ?_)
    · obtain ⟨g, hg, b, rfl, hb⟩ := paired_at hP hx
      refine ⟨b, _, rfl, SqT.of (p.1 _ _ (s1 _ _ hb)), rfl, _, _, rfl, _, _, rfl, rfl, rfl, ?_⟩
      refine ⟨_, rfl, _, rfl, _, _, rfl, rfl, _, rfl, _, _, rfl, rfl, (by show c ≠ 0; omega), _, rfl, _, _, rfl, rfl, _, p.2, ?_, ?_, ?_⟩
      · rw [List.length_map, List.length_take]
        exact Nat.lt_of_le_of_lt (Nat.min_le_left _ _) (small1000 (by have := (List.getElem?_eq_some_iff.mp hx).1; omega))
      · intro b' o e
        rw [upd_ne (ne_of_none e hD)]
        exact p.1 _ _ e
      · rw [upd_same, List.take_add_one, hg, List.map_append, Int.fmod_eq_emod_of_nonneg _ (by omega)]
        rfl
    · refine ⟨D, gs.map fun g => decide ((m - g.1) % c < g.2), rfl, .inl (.inl ?_), ?_⟩
      · rw [p.2, List.take_of_length_le (by omega), List.map_map]
        rfl
      · rw [List.any_map]
        exact q _ (s1.trans p.1)
end
end Gr

set_option Elab.async false
set_option linter.all false
set_option pp.deepTerms false
set_option pp.maxSteps 3000
set_option maxRecDepth 100000
set_option maxHeartbeats 4000000
namespace Gr
open PySem PySem.Spec PyProof.Rows L2
/-! ### the draws -/
/-- all but p stands -/
def But (p : Addr) (H H' : Hp) : Prop := ∀ q o, q ≠ p → H q = some o → H' q = some o
theorem But.refl (p : Addr) (H : Hp) : But p H H := fun _ _ _ h => h
theorem But.trans {p : Addr} {H H1 H2 : Hp} (a : But p H H1) (b : But p H1 H2) : But p H H2 := fun q o n h => b q o n (a q o n h)
theorem Same.but {p : Addr} {H H' : Hp} (s : Same H H') : But p H H' := fun q o _ h => s q o h
theorem But.new {p q : Addr} {H H' : Hp} {o : HO} (s : But p H H') (h : H' q = none) : But p H (upd H' q o) := fun r u n e => by
  have := s r u n e
  rw [upd_ne (ne_of_none this h)]; exact this
/-- an object that H does not know may change -/
theorem But.mut {p q : Addr} {H H' : Hp} {o : HO} (s : But p H H') (h : H q = none) : But p H (upd H' q o) := fun r u n e => by
  rw [upd_ne (ne_of_none e h)]; exact s r u n e
theorem But.at {p : Addr} {H H' : Hp} {o : HO} (s : But p H H') : But p H (upd H' p o) := fun r u n e => by
  rw [upd_ne n]; exact s r u n e
theorem But.fresh {p q : Addr} {H H' : Hp} {u : HO} (s : But p H H') (hp : H p = some u) (hp' : H' p ≠ none) (h : H' q = none) : H q = none := by
  cases e : H q with
  | none => rfl
  | some o =>
    by_cases hq : q = p
    · exact absurd (hq ▸ h) hp'
    · rw [s q o hq e] at h; cases h
/-- a pond at p of which n draws at most were taken -/
def Pond (n : Int) (p : Addr) (H : Hp) : Prop := ∃ a b c : Int, H p = some (.lst [.int a, .int b, .int c]) ∧ 0 ≤ b ∧ b < 10 ^ 60 ∧ 0 ≤ c ∧ c ≤ n
theorem Pond.mono {n m : Int} {p : Addr} {H : Hp} (h : Pond n p H) (l : n ≤ m) : Pond m p H := by
  obtain ⟨a, b, c, h1, h2, h3, h4, h5⟩ := h
  exact ⟨a, b, c, h1, h2, h3, h4, by omega⟩
theorem Pond.same {n : Int} {p : Addr} {H H' : Hp} (s : Same H H') (h : Pond n p H) : Pond n p H' := by
  obtain ⟨a, b, c, h1, h2⟩ := h
  exact ⟨a, b, c, s _ _ h1, h2⟩
theorem Pond.some {n : Int} {p : Addr} {H : Hp} (h : Pond n p H) : ∃ xs, H p = some (.lst xs) := by
  obtain ⟨a, b, c, h1, h2⟩ := h
  exact ⟨_, h1⟩
theorem Pond.ne {n : Int} {p : Addr} {H : Hp} (h : Pond n p H) : H p ≠ none := by
  obtain ⟨xs, h⟩ := h.some
  rw [h]; exact fun z => nomatch z
theorem Pond.new {n : Int} {p q : Addr} {H : Hp} {o : HO} (h : Pond n p H) (hq : H q = none) : Pond n p (upd H q o) := h.same (Same.new hq)
theorem natAbs_lt {i : Int} {k : Nat} (h0 : 0 ≤ i) (h : i < ((2 ^ k : Nat) : Int)) : i.natAbs < 2 ^ k := by omega
theorem e60 : ((10 : Int) ^ 60) < ((2 ^ 200 : Nat) : Int) := by decide +kernel
theorem e100 : ((10 : Int) ^ 100) < ((2 ^ 1000 : Nat) : Int) := by decide +kernel
theorem draw_ok {m : Int} (h1 : 1 ≤ m) (h2 : m ≤ 10 ^ 100) : m.natAbs < 2 ^ 1000 := natAbs_lt (by omega) (Int.lt_of_le_of_lt h2 e100)
theorem fmod_rng {x m : Int} (h : 1 ≤ m) : 0 ≤ x.fmod m ∧ x.fmod m < m := by
  rw [Int.fmod_eq_emod_of_nonneg x (by omega)]
  exact ⟨Int.emod_nonneg x (by omega), Int.emod_lt_of_pos x (by omega)⟩
def spFish : Sp := fun vs H Q _ => ∃ (p : Addr) (m n : Int), vs = [.ref p, .int m] ∧ Pond n p H ∧ n ≤ 10 ^ 9 ∧ 1 ≤ m ∧ m ≤ 10 ^ 100 ∧ ∀ r H', But p H H' → Pond (n + 12) p H' → 0 ≤ r → r < m → Q (.int r) H'
def spFish1 : Sp := fun vs H Q _ => ∃ (p : Addr) (m n : Int), vs = [.ref p, .int m] ∧ Pond n p H ∧ n ≤ 10 ^ 9 + 100 ∧ 1 ≤ m ∧ m ≤ 10 ^ 30 ∧ ∀ r H', But p H H' → Pond (n + 1) p H' → 0 ≤ r → r < m → Q (.int r) H'
theorem cp30 : CPowW 10 30 := ⟨by decide, by decide +kernel⟩
theorem cp42 : CPowW 10 42 := ⟨by decide, by decide +kernel⟩
theorem cp44 : CPowW 10 44 := ⟨by decide, by decide +kernel⟩
theorem cube_of {i : Int} (h0 : 0 ≤ i) (h : i < ((2 ^ 1000 : Nat) : Int)) : CPowW i 3 := cube_ok (natAbs_lt h0 h)
theorem mulc {k c : Int} (h0 : 0 ≤ k) (h1 : k < ((2 ^ 40 : Nat) : Int)) (c0 : 0 ≤ c) (c1 : c ≤ 10 ^ 10) : CMulW k c := by
  have e : ((10 : Int) ^ 10) < ((2 ^ 40 : Nat) : Int) := by decide +kernel
  exact wide_mul (a := 40) (b := 40) (natAbs_lt h0 h1) (natAbs_lt c0 (by omega)) (by decide) (by decide) (by decide)
theorem p200 : ((2 ^ 200 : Nat) : Int) + 10 ^ 20 < ((2 ^ 1000 : Nat) : Int) := by decide +kernel
theorem p42 : (10 : Int) ^ (42 : Int).toNat + 63 < 10 ^ 60 := by decide +kernel
theorem q42 : (10 : Int) ^ (42 : Int).toNat + 63 ≠ 0 := by decide +kernel
theorem q44 : (10 : Int) ^ (44 : Int).toNat + 57 ≠ 0 := by decide +kernel
set_option exponentiation.threshold 2000
section
variable {P : Program} {w : World} {K : PySem.W.Frag} {mg : Str → Option Value} {base : Heap} {tC tG : Tok}
theorem ok_fish1 {f : Addr} {fd : FuncData} (B : Blt mg tC tG) (Dl_fish : Def K mg "_law_fish" s_l_fish ["_law_pond_here", "_law_bound"] f fd) : FnOk P w K mg base CX0 1 f fd ["_law_pond_here", "_law_bound"] spFish1 := by
  refine Dl_fish.F.ok scl_fish (fun vs H Q E h => ?_) (fun cdv A outer s H vs Q E hr h => ⟨_, (pss_cons (ps_if (pt_cmpR op_gt (pv 1) (pe_op op_powW pe_int pe_int) (nomark _))
   (pss_cons (ps_set (i := 2) scl_fish.nd rfl (Or.inl rfl) pe_int)
  (pss_cons (ps_for PassesOwn.never rfl (pi_range1 (by rfl) B.range (pa_cons (pe_op op_add pe_int (pe_op op_fdivW (pe_bits (pv 1)) pe_int)) pa_nil)) (pg_name (i := 3) scl_fish.nd rfl (Or.inl rfl))
   (pss_one ps_never))
  (pss_one (ps_ret (pe_op op_modN (pv 2) (pv 1))))))
   pss_nil)
  (pss_cons (ps_if (pt_cmpR op_gt (pe_ix ix_list (pv 0) pe_int (fun _ _ => rfl)) pe_int (nomark _))
   (pss_cons (ps_set (i := 2) scl_fish.nd rfl (Or.inl rfl) (pe_op op_modN (pe_ix ix_list (pv 0) pe_int (fun _ _ => rfl)) (pv 1)))
  (pss_cons (ps_asg (pe_op op_fdivW (pe_ix ix_list (pv 0) pe_int (fun _ _ => rfl)) (pv 1)) (pg_sub (pv 0) pe_int set_list))
  (pss_one (ps_ret (pv 2)))))
   pss_nil)
  (pss_cons (ps_asg (pe_op op_add (pe_ix ix_list (pv 0) pe_int (fun _ _ => rfl)) pe_int) (pg_sub (pv 0) pe_int set_list))
  (pss_cons (ps_set (i := 4) scl_fish.nd rfl (Or.inl rfl) (pe_op op_modN (pe_op op_powW (pe_op op_add (pe_ix ix_list (pv 0) pe_int (fun _ _ => rfl)) (pe_op op_mulW pe_int (pe_ix ix_list (pv 0) pe_int (fun _ _ => rfl)))) pe_int) (pe_op op_add (pe_op op_powW pe_int pe_int) pe_int)))
  (pss_cons (ps_set (i := 4) scl_fish.nd rfl (Or.inl rfl) (pe_op op_modN (pe_op op_powW (pe_op op_add (pv 4) (pe_op op_mulW pe_int (pe_ix ix_list (pv 0) pe_int (fun _ _ => rfl)))) pe_int) (pe_op op_add (pe_op op_powW pe_int pe_int) pe_int)))
  (pss_one (ps_ret (pe_op op_modN (pe_op op_fdivW (pv 4) pe_int) (pv 1))))))))), ?_⟩)
  · obtain ⟨p, m, n, rfl, _⟩ := h; rfl
  · obtain ⟨p, m, n, rfl, ⟨a, b, c, hp, b0, b1, c0, c1⟩, hn, m1, m2, q⟩ := h
    refine ⟨_, rfl, _, _, rfl, rfl, cp30, _, _, rfl, rfl, _, rfl, iteN (show ¬ (10 : Int) ^ 30 < m by omega) ?_⟩
    refine ⟨_, rfl, p, _, _, _, rfl, rfl, SqL.of hp, rfl, _, _, rfl, rfl, _, rfl, ?_⟩
    have dm : CDivW a m := wide_div (b := 1000) (by omega) (draw_ok m1 (by omega)) (by decide) (by decide)
    by_cases ha : 0 < a
    · refine iteY ha ?_
      refine ⟨_, rfl, p, _, _, _, rfl, rfl, SqL.of hp, rfl, _, rfl, _, _, rfl, rfl, (by show m ≠ 0; omega), ?_⟩
      refine ⟨_, rfl, p, _, _, _, rfl, rfl, SqL.of hp, rfl, _, rfl, _, _, rfl, rfl, dm, _, rfl, p, _, _, _, rfl, rfl, hp, rfl, ?_⟩
      refine ⟨_, rfl, q _ _ (But.refl p H).at ⟨a / m, b, c, upd_same, b0, b1, c0, by omega⟩ (fmod_rng m1).1 (fmod_rng m1).2⟩
    · refine iteN ha ?_
      refine ⟨_, rfl, p, _, _, _, rfl, rfl, SqL.of hp, rfl, _, _, rfl, rfl, _, rfl, p, _, _, _, rfl, rfl, hp, rfl, ?_⟩
      have hp2 : (upd H p (.lst ([V.int a, .int b, .int c].set 2 (.int (c + 1))))) p = some (.lst [.int a, .int b, .int (c + 1)]) := upd_same
      refine ⟨_, rfl, p, _, _, _, rfl, rfl, SqL.of hp2, rfl, _, rfl, p, _, _, _, rfl, rfl, SqL.of hp2, rfl, _, _, rfl, rfl, mulc (by decide) (by decide) (by omega) (by omega), _, _, rfl, rfl, ?_⟩
      refine ⟨_, _, rfl, rfl, cube_of (by omega) (by have := e60; have := p200; omega), _, _, rfl, rfl, cp42, _, _, rfl, rfl, _, _, rfl, rfl, q42, ?_⟩
      have r1 := fmod_rng (x := (b + 49979687 * (c + 1)) ^ (3 : Int).toNat) (m := 10 ^ (42 : Int).toNat + 63) (by decide +kernel)
      refine ⟨_, rfl, _, rfl, p, _, _, _, rfl, rfl, SqL.of hp2, rfl, _, _, rfl, rfl, mulc (by decide) (by decide) (by omega) (by omega), _, _, rfl, rfl, ?_⟩
      refine ⟨_, _, rfl, rfl, cube_of (by omega) (by have := e60; have := p200; have := p42; omega), _, _, rfl, rfl, cp44, _, _, rfl, rfl, _, _, rfl, rfl, q44, ?_⟩
      refine ⟨_, rfl, _, _, rfl, rfl, ⟨by decide, by decide +kernel⟩, _, rfl, _, _, rfl, rfl, (by show m ≠ 0; omega), ?_⟩
      exact q _ _ (But.refl p H).at ⟨a, b, c + 1, upd_same, b0, b1, by omega, by omega⟩ (fmod_rng m1).1 (fmod_rng m1).2
end
end Gr

set_option Elab.async false
set_option linter.all false
set_option pp.deepTerms false
set_option pp.maxSteps 3000
set_option maxRecDepth 100000
set_option maxHeartbeats 4000000
set_option exponentiation.threshold 3000
namespace Gr
open PySem PySem.Spec PyProof.Rows L2
/-! ### greens drawn, their rests, scaled -/
theorem fnok_or {P : Program} {w : World} {K : PySem.W.Frag} {mg : Str → Option Value} {base : Heap} {C : CXT} {k : Nat} {f : Addr} {fd : FuncData} {ps : List Str} {s1 s2 : Sp} (a : FnOk P w K mg base C k f fd ps s1) (b : FnOk P w K mg base C k f fd ps s2) :
    FnOk P w K mg base C k f fd ps (fun vs H Q E => s1 vs H Q E ∨ s2 vs H Q E) :=
  ⟨fun vs H Q E h => h.elim (a.len vs H Q E) (b.len vs H Q E), fun A o s H ar us vs Q E hr he hb hv h => h.elim (a.run A o s H ar us vs Q E hr he hb hv) (b.run A o s H ar us vs Q E hr he hb hv)⟩
def spFish2 : Sp := fun vs H Q _ => ∃ (p : Addr) (m n : Int), vs = [.ref p, .int m] ∧ Pond n p H ∧ n ≤ 10 ^ 9 ∧ 10 ^ 30 < m ∧ m ≤ 10 ^ 100 ∧ ∀ r H', But p H H' → Pond (n + 12) p H' → 0 ≤ r → r < m → Q (.int r) H'
def pairD (g : Int × Int) : PyData := .tuple [.int g.1, .int g.2]
theorem lay_pairs : ∀ gs : List (Int × Int), PyData.canLayAll0 (gs.map pairD) = true
  | [] => by simp [PyData.canLayAll0]
  | g :: gs => by simp [PyData.canLayAll0, PyData.canLay0, pairD, lay_pairs gs]
theorem depth_pairs : ∀ gs : List (Int × Int), PyData.depthAll (gs.map pairD) ≤ 5
  | [] => by simp [PyData.depthAll]
  | g :: gs => by
    have := depth_pairs gs
    simp only [List.map_cons, PyData.depthAll, PyData.depth, pairD]
    omega
theorem shaped_pairs (gs : List (Int × Int)) : SeqAt.shaped (.list (gs.map pairD)) = true := by
  have h := depth_pairs gs
  unfold SeqAt.shaped
  rw [Bool.and_eq_true]
  refine ⟨by simpa only [PyData.canLay0] using lay_pairs gs, decide_eq_true ?_⟩
  simp only [PyData.depth]
  omega
theorem shaped_nil : SeqAt.shaped (.list []) = true := by decide +kernel
theorem eqv_nil : ∀ gs : List (Int × Int), PyData.eqv (.list (gs.map pairD)) (.list []) = gs.isEmpty
  | [] => by simp [PyData.eqv, PyData.eqvAll]
  | g :: gs => by simp [PyData.eqv, PyData.eqvAll]
theorem dp_pairs {K : PySem.W.Frag} {H : Hp} {xs : List V} {gs : List (Int × Int)} (h : Paired (GrAt H) xs gs) : DpAll K H xs (gs.map pairD) := by
  induction h with
  | nil => exact .nil
  | cons r t ih =>
    obtain ⟨b, rfl, h⟩ := r
    exact .cons (.tup (SqT.of h) (.cons (.int _) (.cons (.int _) .nil))) ih
theorem pick {xs : List Int} {r : Int} (h0 : 0 ≤ r) (h1 : r < (xs.length : Int)) : ∃ v ∈ xs, atI (xs.map V.int) r = some (.int v) := by
  obtain ⟨j, rfl⟩ : ∃ j : Nat, r = (j : Int) := ⟨r.toNat, (Int.toNat_of_nonneg h0).symm⟩
  have hl : j < xs.length := by omega
  refine ⟨xs[j], List.getElem_mem hl, atI_nat ?_⟩
  rw [List.getElem?_map, List.getElem?_eq_getElem hl]
  rfl
theorem GrAt.but {p : Addr} {H H' : Hp} {us : List V} (s : But p H H') (hp : H p = some (.lst us)) {x : V} {g : Int × Int} (h : GrAt H x g) : GrAt H' x g := by
  obtain ⟨b, e, h⟩ := h
  exact ⟨b, e, s b _ (ne_of h hp (fun z => nomatch z)) h⟩
theorem grs_but {p : Addr} {H H' : Hp} {us : List V} (s : But p H H') (hp : H p = some (.lst us)) {xs : List V} {gs : List (Int × Int)} (h : Paired (GrAt H) xs gs) : Paired (GrAt H') xs gs := L2.Paired.mapP h fun _ _ r => r.but s hp
theorem grs_same {H H' : Hp} (s : Same H H') {xs : List V} {gs : List (Int × Int)} (h : Paired (GrAt H) xs gs) : Paired (GrAt H') xs gs := L2.Paired.mapP h fun _ _ ⟨b, e, h⟩ => ⟨b, e, s _ _ h⟩
theorem SigT.but {p g : Addr} {H H' : Hp} {us : List V} (s : But p H H') (hp : H p = some (.lst us)) {gs : List (Int × Int)} (h : SigT H g gs) : SigT H' g gs := by
  obtain ⟨xs, h1, h2⟩ := h
  exact ⟨xs, s g _ (ne_of h1 hp (fun z => nomatch z)) h1, grs_but s hp h2⟩
theorem paired_snoc {α β : Type} {R : α → β → Prop} : ∀ {xs : List α} {ys : List β} {x : α} {y : β}, Paired R xs ys → R x y → Paired R (xs ++ [x]) (ys ++ [y])
  | _, _, _, _, .nil, r => .cons r .nil
  | _, _, _, _, .cons q t, r => .cons q (paired_snoc t r)
def spPondNew (K : PySem.W.Frag) : Sp := fun vs H Q _ => ∃ (a : Addr) (k : Int) (ns : List Int), vs = [.ref a, .int k] ∧ SqL K H a (ns.map V.int) ∧ 0 ≤ k ∧ k ≤ 100 ∧ ∀ p H', H p = none → Same H H' → Pond 0 p H' → Q (.ref p) H'
def spGreens : Sp := fun vs H Q _ => ∃ (p : Addr) (s n : Int), vs = [.ref p, .int s] ∧ Pond n p H ∧ n ≤ 10 ^ 8 ∧ 1 ≤ s ∧ s ≤ 10 ^ 30 ∧ ∀ g gs H', But p H H' → Pond (n + 1000) p H' → SigT H' g gs → OkG s gs → Q (.ref g) H'
section
variable {P : Program} {w : World} {K : PySem.W.Frag} {mg : Str → Option Value} {base : Heap} {tC tG : Tok}
theorem ok_fish2 {f : Addr} {fd : FuncData} (B : Blt mg tC tG) (Dl_fish : Def K mg "_law_fish" s_l_fish ["_law_pond_here", "_law_bound"] f fd) : FnOk P w K mg base CX0 2 f fd ["_law_pond_here", "_law_bound"] spFish2 := by
  have Gl_fish := ok_fish1 (P := P) (w := w) (base := base) B Dl_fish
  refine Dl_fish.F.ok scl_fish (fun vs H Q E h => ?_) (fun cdv A outer s H vs Q E hr h => ⟨_, (pss_cons (ps_if (pt_cmpR op_gt (pv 1) (pe_op op_powW pe_int pe_int) (nomark _))
   (pss_cons (ps_set (i := 2) scl_fish.nd rfl (Or.inl rfl) pe_int)
  (pss_cons (ps_for PassesOwn.never rfl (pi_range1 (by rfl) B.range (pa_cons (pe_op op_add pe_int (pe_op op_fdivW (pe_bits (pv 1)) pe_int)) pa_nil)) (pg_name (i := 3) scl_fish.nd rfl (Or.inl rfl))
   (pss_one (ps_set (i := 2) scl_fish.nd rfl (Or.inl rfl) (pe_op op_add (pe_op op_mulW (pv 2) (pe_op op_powW pe_int pe_int)) (pe_call Gl_fish (hr.mono (by decide)) (by rfl) Dl_fish.g Dl_fish.F.kp Dl_fish.b .nil pass0 (pa_cons (pv 0) (pa_cons (pe_op op_powW pe_int pe_int) pa_nil)))))))
  (pss_one (ps_ret (pe_op op_modN (pv 2) (pv 1))))))
   pss_nil)
  (pss_cons (ps_if (pt_cmpR op_gt (pe_ix ix_list (pv 0) pe_int (fun _ _ => rfl)) pe_int (nomark _))
   (pss_cons (ps_set (i := 2) scl_fish.nd rfl (Or.inl rfl) (pe_op op_modN (pe_ix ix_list (pv 0) pe_int (fun _ _ => rfl)) (pv 1)))
  (pss_cons (ps_asg (pe_op op_fdivW (pe_ix ix_list (pv 0) pe_int (fun _ _ => rfl)) (pv 1)) (pg_sub (pv 0) pe_int set_list))
  (pss_one (ps_ret (pv 2)))))
   pss_nil)
  (pss_cons (ps_asg (pe_op op_add (pe_ix ix_list (pv 0) pe_int (fun _ _ => rfl)) pe_int) (pg_sub (pv 0) pe_int set_list))
  (pss_cons (ps_set (i := 4) scl_fish.nd rfl (Or.inl rfl) (pe_op op_modN (pe_op op_powW (pe_op op_add (pe_ix ix_list (pv 0) pe_int (fun _ _ => rfl)) (pe_op op_mulW pe_int (pe_ix ix_list (pv 0) pe_int (fun _ _ => rfl)))) pe_int) (pe_op op_add (pe_op op_powW pe_int pe_int) pe_int)))
  (pss_cons (ps_set (i := 4) scl_fish.nd rfl (Or.inl rfl) (pe_op op_modN (pe_op op_powW (pe_op op_add (pv 4) (pe_op op_mulW pe_int (pe_ix ix_list (pv 0) pe_int (fun _ _ => rfl)))) pe_int) (pe_op op_add (pe_op op_powW pe_int pe_int) pe_int)))
  (pss_one (ps_ret (pe_op op_modN (pe_op op_fdivW (pv 4) pe_int) (pv 1))))))))), ?_⟩)
  · obtain ⟨p, m, n, rfl, _⟩ := h; rfl
  · obtain ⟨p, m, n, rfl, hP, hn, m1, m2, q⟩ := h
    refine ⟨_, rfl, _, _, rfl, rfl, cp30, _, _, rfl, rfl, _, rfl, iteY (show (10 : Int) ^ 30 < m from m1) ?_⟩
    have hb := bits_le (draw_ok (m := m) (by omega) m2) (by decide)
    refine ⟨_, rfl, _, rfl, _, _, rfl, rfl, ⟨by decide, by decide +kernel⟩, _, _, rfl, rfl, _, rfl, by omega, by omega, ?_⟩
    refine for_range (lo := 0) (fun i σ H' => ∃ f y, σ = [some (.ref p), some (.int m), some (.int f), y, none] ∧ 0 ≤ f ∧ f < 10 ^ (30 * i) ∧ But p H H' ∧ Pond (n + i) p H') ⟨0, none, rfl, by decide, by decide, But.refl p H, hP.mono (by omega)⟩ ?_ ?_
    · rintro i σ H' hi ⟨f, y, rfl, f0, f1, bt, pd⟩
      have i12 : i ≤ 12 := by omega
      have fs : f.natAbs < 2 ^ 1200 := natAbs_lt f0 (by
        have a : (10 : Int) ^ (30 * i) ≤ 10 ^ 360 := by
          have : (10 : Nat) ^ (30 * i) ≤ 10 ^ 360 := Nat.pow_le_pow_right (by decide) (by omega)
          exact_mod_cast this
        have b : (10 : Int) ^ 360 < ((2 ^ 1200 : Nat) : Int) := by decide +kernel
        exact Int.lt_trans (Int.lt_of_lt_of_le f1 a) b)
      refine ⟨_, rfl, _, _, rfl, rfl, cp30, _, _, rfl, rfl, wide_mul (a := 1200) (b := 100) fs (by decide +kernel) (by decide) (by decide) (by decide), _, rfl, _, _, rfl, rfl, cp30, ?_⟩
      refine ⟨p, _, n + i, rfl, pd, by omega, by decide +kernel, by decide +kernel, fun r H2 bt2 pd2 r0 r1 => ?_⟩
      refine ⟨_, _, rfl, rfl, f * 10 ^ (30 : Int).toNat + r, some (.int (0 + (i : Int))), rfl, ?_, ?_, bt.trans bt2, pd2.mono (by omega)⟩
      · have : 0 ≤ f * 10 ^ (30 : Int).toNat := Int.mul_nonneg f0 (by decide +kernel)
        omega
      · have e : (10 : Int) ^ (30 * (i + 1)) = 10 ^ (30 * i) * 10 ^ (30 : Int).toNat := by
          rw [show 30 * (i + 1) = 30 * i + 30 by omega, Int.pow_add]; rfl
        have a : (f + 1) * 10 ^ (30 : Int).toNat ≤ 10 ^ (30 * i) * 10 ^ (30 : Int).toNat := Int.mul_le_mul_of_nonneg_right (by omega) (by decide +kernel)
        rw [e]
        rw [Int.add_mul, Int.one_mul] at a
        omega
    · rintro σ H' ⟨f, y, rfl, f0, f1, bt, pd⟩
      exact ⟨_, rfl, _, rfl, _, _, rfl, rfl, (by show m ≠ 0; omega), q _ _ bt (pd.mono (by omega)) (fmod_rng (by omega)).1 (fmod_rng (by omega)).2⟩
theorem ok_fish {f : Addr} {fd : FuncData} (B : Blt mg tC tG) (Dl_fish : Def K mg "_law_fish" s_l_fish ["_law_pond_here", "_law_bound"] f fd) : FnOk P w K mg base CX0 2 f fd ["_law_pond_here", "_law_bound"] spFish :=
  (fnok_or (FnOk.mono (k := 2) (ok_fish1 B Dl_fish) (by decide)) (ok_fish2 B Dl_fish)).imp fun vs H Q E ⟨p, m, n, e, hP, hn, m1, m2, q⟩ => by
    by_cases h : m ≤ 10 ^ 30
    · exact .inl ⟨p, m, n, e, hP, by omega, m1, h, fun r H' bt pd => q r H' bt (pd.mono (by omega))⟩
    · exact .inr ⟨p, m, n, e, hP, hn, by omega, m2, q⟩
theorem ok_pond {f : Addr} {fd : FuncData} (B : Blt mg tC tG) (Dl_pond : Def K mg "_law_pond" s_l_pond ["_law_script", "_law_k"] f fd) : FnOk P w K mg base CX0 1 f fd ["_law_script", "_law_k"] (spPondNew K) := by
  refine Dl_pond.F.ok scl_pond (fun vs H Q E h => ?_) (fun cdv A outer s H vs Q E hr h => ⟨_, (pss_cons (ps_set (i := 2) scl_pond.nd rfl (Or.inl rfl) pe_int)
  (pss_cons (ps_if (pt_cmpR op_lt (pv 1) (pe_callB call_len_seq (by rfl) B.len PySem.boot_len (pa_cons (pv 0) pa_nil)) (nomark _))
   (pss_one (ps_set (i := 2) scl_pond.nd rfl (Or.inl rfl) (pe_ix ix_list (pv 0) (pv 1) (fun _ _ => rfl))))
   pss_nil)
  (pss_one (ps_ret (pe_lst (pa_cons (pe_callB (call_max2 rfl) (by rfl) B.n_max (by decide +kernel) (pa_cons pe_int (pa_cons (pe_op op_sub (pv 2) (pe_op op_powW pe_int pe_int)) pa_nil))) (pa_cons (pe_op op_add (pe_op op_modN (pv 2) (pe_op op_add (pe_op op_powW pe_int pe_int) pe_int)) (pe_op op_mulW pe_int (pv 1))) (pa_cons pe_int pa_nil)))))))), ?_⟩)
  · obtain ⟨a, k, ns, rfl, _⟩ := h; rfl
  · obtain ⟨a, k, ns, rfl, hS, k0, k1, q⟩ := h
    have cp18 : CPowW 10 18 := ⟨by decide, by decide +kernel⟩
    have cp38 : CPowW 10 38 := ⟨by decide, by decide +kernel⟩
    have e38 : (10 : Int) ^ (38 : Int).toNat + 133 + 15487469 * 100 < 10 ^ 60 := by decide +kernel
    have e1 : 1 ≤ (10 : Int) ^ (38 : Int).toNat + 133 := by decide +kernel
    have fin : ∀ z : Int, 0 ≤ z.fmod ((10 : Int) ^ (38 : Int).toNat + 133) + 15487469 * k ∧ z.fmod ((10 : Int) ^ (38 : Int).toNat + 133) + 15487469 * k < 10 ^ 60 := fun z => by
      have := fmod_rng (x := z) e1
      omega
    refine ⟨_, rfl, _, rfl, a, _, rfl, .inl hS, _, _, rfl, rfl, _, rfl, ?_⟩
    rw [List.length_map]
    by_cases hk : k < (ns.length : Int)
    · refine iteY hk ?_
      obtain ⟨v, _, hv⟩ := pick k0 hk
      refine ⟨_, rfl, _, rfl, a, _, _, _, rfl, rfl, hS, hv, ?_⟩
      refine ⟨_, rfl, _, _, rfl, rfl, cp18, _, _, rfl, rfl, _, _, rfl, _, rfl, _, _, rfl, rfl, cp38, _, _, rfl, rfl, _, _, rfl, rfl, (by show (10 : Int) ^ (38 : Int).toNat + 133 ≠ 0; omega), _, rfl, _, _, rfl, rfl, mulc (by decide) (by decide) k0 (by omega), _, _, rfl, rfl, (by show 3 ≤ sizeLine; decide), fun p hp => ?_⟩
      exact q p _ hp (Same.new hp) ⟨_, _, _, upd_same, (fin v).1, (fin v).2, by decide, by decide⟩
    · refine iteN hk ?_
      refine ⟨_, rfl, _, _, rfl, rfl, cp18, _, _, rfl, rfl, _, _, rfl, _, rfl, _, _, rfl, rfl, cp38, _, _, rfl, rfl, _, _, rfl, rfl, (by show (10 : Int) ^ (38 : Int).toNat + 133 ≠ 0; omega), _, rfl, _, _, rfl, rfl, mulc (by decide) (by decide) k0 (by omega), _, _, rfl, rfl, (by show 3 ≤ sizeLine; decide), fun p hp => ?_⟩
      exact q p _ hp (Same.new hp) ⟨_, _, _, upd_same, (fin 0).1, (fin 0).2, by decide, by decide⟩
theorem ok_greens {f f1 : Addr} {fd fd1 : FuncData} (B : Blt mg tC tG) (Dl_greens : Def K mg "_law_greens" s_l_greens ["_law_pond_here", "_law_span"] f fd) (Dl_fish : Def K mg "_law_fish" s_l_fish ["_law_pond_here", "_law_bound"] f1 fd1) : FnOk P w K mg base CX0 3 f fd ["_law_pond_here", "_law_span"] spGreens := by
  have Gl_fish := ok_fish (P := P) (w := w) (base := base) B Dl_fish
  refine Dl_greens.F.ok scl_greens (fun vs H Q E h => ?_) (fun cdv A outer s H vs Q E hr h => ⟨_, (pss_cons (ps_set (i := 2) scl_greens.nd rfl (Or.inl rfl) (pe_lst pa_nil))
  (pss_cons (ps_for PassesOwn.never rfl (pi_range1 (by rfl) B.range (pa_cons (pe_ix ix_list (pe_lst (pa_cons pe_int (pa_cons pe_int (pa_cons pe_int (pa_cons pe_int (pa_cons pe_int (pa_cons (pe_op op_add pe_int (pe_call Gl_fish (hr.mono (by decide)) (by rfl) Dl_fish.g Dl_fish.F.kp Dl_fish.b .nil pass0 (pa_cons (pv 0) (pa_cons pe_int pa_nil)))) pa_nil))))))) (pe_call Gl_fish (hr.mono (by decide)) (by rfl) Dl_fish.g Dl_fish.F.kp Dl_fish.b .nil pass0 (pa_cons (pv 0) (pa_cons pe_int pa_nil))) (fun _ _ => rfl)) pa_nil)) (pg_name (i := 3) scl_greens.nd rfl (Or.inl rfl))
   (pss_cons (ps_set (i := 4) scl_greens.nd rfl (Or.inl rfl) (pe_call Gl_fish (hr.mono (by decide)) (by rfl) Dl_fish.g Dl_fish.F.kp Dl_fish.b .nil pass0 (pa_cons (pv 0) (pa_cons (pv 1) pa_nil))))
  (Evl.pss_cut (ps_if (PW.pt (pw_and (pt_cmpR (op_neD hr.units) (pv 2) (pe_lst pa_nil) (nomark _)) (pw_and1 (pt_cmpR op_eq (pe_call Gl_fish (hr.mono (by decide)) (by rfl) Dl_fish.g Dl_fish.F.kp Dl_fish.b .nil pass0 (pa_cons (pv 0) (pa_cons pe_int pa_nil))) pe_int (nomark _)))))
   (pss_one (ps_set (i := 4) scl_greens.nd rfl (Or.inl rfl) (pe_op op_modN (pe_op op_add (pe_ix ix_tup (pe_ix ix_list (pv 2) (pe_un un_neg pe_int) (fun _ _ => rfl)) pe_int (fun _ _ => rfl)) (pe_ix ix_tup (pe_ix ix_list (pv 2) (pe_un un_neg pe_int) (fun _ _ => rfl)) pe_int (fun _ _ => rfl))) (pv 1))))
   pss_nil)
  (pss_cons (ps_set (i := 5) scl_greens.nd rfl (Or.inl rfl) (pe_op op_add pe_int (pe_call Gl_fish (hr.mono (by decide)) (by rfl) Dl_fish.g Dl_fish.F.kp Dl_fish.b .nil pass0 (pa_cons (pv 0) (pa_cons (pe_callB (call_min2 rfl) (by rfl) B.n_min (by decide +kernel) (pa_cons (pv 1) (pa_cons pe_int pa_nil))) pa_nil)))))
  (pss_cons (ps_set (i := 6) scl_greens.nd rfl (Or.inl rfl) (pe_ix ix_list (pe_lst (pa_cons (pv 5) (pa_cons (pe_op op_add pe_int (pe_call Gl_fish (hr.mono (by decide)) (by rfl) Dl_fish.g Dl_fish.F.kp Dl_fish.b .nil pass0 (pa_cons (pv 0) (pa_cons (pe_op op_add (pe_op op_fdivW (pv 1) pe_int) pe_int) pa_nil)))) (pa_cons (pe_op op_add pe_int (pe_call Gl_fish (hr.mono (by decide)) (by rfl) Dl_fish.g Dl_fish.F.kp Dl_fish.b .nil pass0 (pa_cons (pv 0) (pa_cons (pv 1) pa_nil)))) pa_nil)))) (pe_call Gl_fish (hr.mono (by decide)) (by rfl) Dl_fish.g Dl_fish.F.kp Dl_fish.b .nil pass0 (pa_cons (pv 0) (pa_cons pe_int pa_nil))) (fun _ _ => rfl)))
  (pss_one (ps_expr (pe_bm PySem.F.plainAttrs_list PySem.F.slot_list_append PySem.F.type_list_append mt_append (pv 2) (pa_cons (pe_tup (pa_cons (pv 4) (pa_cons (pe_ifExp (pt_cmpR op_eq (pe_op op_modN (pv 3) pe_int) pe_int (nomark _)) (pv 5) (pv 6)) pa_nil))) pa_nil)))))))))
  (pss_one (ps_ret (pe_callTy call_tuple_of (by rfl) B.n_tuple (by decide +kernel) (pa_cons (pv 2) pa_nil)))))), ?_⟩)
  · obtain ⟨p, m, n, rfl, _⟩ := h; rfl
  · obtain ⟨p, m, n, rfl, hP, hn, m1, m2, q⟩ := h
    refine ⟨Nat.zero_le _, fun F hF => ?_⟩
    have hpF : p ≠ F := fun e => hP.ne (e ▸ hF)
    -- how many
    refine ⟨_, rfl, p, 6, n, rfl, hP.new hF, by omega, by decide, by decide +kernel, fun r1 H2 bt2 pd2 r10 r11 => ?_⟩
    refine ⟨_, _, rfl, rfl, (by show 6 ≤ sizeLine; decide), fun L hL => ⟨_, rfl, p, 6, n + 12, rfl, pd2.new hL, by omega, by decide, by decide +kernel, fun r2 H3 bt3 pd3 r20 r21 => ?_⟩⟩
    obtain ⟨v, hv, ha⟩ := pick (xs := [1, 1, 2, 3, 6, 1 + r1]) r20 r21
    have hLp : L ≠ p := fun e => pd2.ne (e ▸ hL)
    have b23 : But p (upd H F (.lst [])) H3 := (bt2.new hL).trans bt3
    have v16 : 1 ≤ v ∧ v ≤ 6 := by
      simp only [List.mem_cons, List.not_mem_nil, or_false] at hv
      omega
    refine ⟨L, _, _, _, rfl, rfl, SqL.of (bt3 L _ hLp upd_same), ha, v, rfl, by omega, by omega, ?_⟩
    refine for_range (lo := 0) (fun i σ H' => ∃ gs us y3 y4 y5 y6, σ = [some (.ref p), some (.int m), some (.ref F), y3, y4, y5, y6] ∧ But p H H' ∧ Pond (n + 24 + 100 * i) p H' ∧ H' F = some (.lst us) ∧ Paired (GrAt H') us gs ∧
      gs.length = i ∧ ∀ g ∈ gs, 0 ≤ g.1 ∧ g.1 < m ∧ 1 ≤ g.2 ∧ g.2 ≤ m)
      ⟨[], [], none, none, none, none, rfl, fun q' o hq e => b23 q' o hq ((Same.new hF) q' o e), pd3.mono (by omega), b23 F _ hpF.symm upd_same, .nil, rfl, fun _ h => (List.not_mem_nil h).elim⟩ ?_ ?_
    · rintro i σ H' hi ⟨gs, us, y3, y4, y5, y6, rfl, bt, pd, hf, hG, hlen, hok⟩
      have i6 : i ≤ 6 := by omega
      have m100 : m ≤ 10 ^ 100 := by
        have : (10 : Int) ^ 30 ≤ 10 ^ 100 := by decide +kernel
        omega
      refine ⟨_, rfl, _, rfl, p, m, _, rfl, pd, by omega, m1, m100, fun r4 H4 bt4 pd4 r40 r41 => ?_⟩
      obtain ⟨pu, hpu⟩ := pd.some
      have hf4 := bt4 F _ hpF.symm hf
      have hG4 := grs_but bt4 hpu hG
      refine ⟨fun σ' H' => ∃ pl, σ' = [some (.ref p), some (.int m), some (.ref F), some (.int (0 + (i : Int))), some (.int pl), y5, y6] ∧ But p H H' ∧ Pond (n + 24 + 100 * i + 24) p H' ∧ H' F = some (.lst us) ∧ Paired (GrAt H') us gs ∧ 0 ≤ pl ∧ pl < m, ?_, ?_⟩
      · refine ⟨_, rfl, Nat.zero_le _, fun Z hZ => ⟨_, _, .lst (SqL.of (Same.new hZ _ _ hf4)) (dp_pairs (grs_same (Same.new hZ) hG4)), .lst (SqL.of upd_same) .nil, shaped_pairs gs, shaped_nil, _, rfl, ?_⟩⟩
        have hfZ := Same.new hZ (o := .lst []) _ _ hf4
        have hGZ := grs_same (Same.new hZ (o := .lst [])) hG4
        rw [eqv_nil]
        rcases List.eq_nil_or_concat gs with rfl | ⟨gs', g, rfl⟩
        · exact ⟨r4, rfl, (bt.trans bt4).new hZ, (pd4.new hZ).mono (by omega), hfZ, hGZ, r40, r41⟩
        · rw [show (gs'.concat g).isEmpty = false by simp]
          refine ⟨_, rfl, p, 3, _, rfl, pd4.new hZ, by omega, by decide, by decide +kernel, fun r5 H5 bt5 pd5 r50 r51 => ⟨rfl, _, rfl, ?_⟩⟩
          obtain ⟨pu5, hpu5⟩ := (pd4.new hZ (o := .lst [])).some
          have hf5 := bt5 F _ hpF.symm hfZ
          have hG5 := grs_but bt5 hpu5 hGZ
          have b5 : But p H H5 := ((bt.trans bt4).new hZ).trans bt5
          by_cases h5 : r5 = 0
          · refine iteY (congrArg V.int h5) ?_
            rcases List.eq_nil_or_concat us with rfl | ⟨us', x, rfl⟩
            · have := paired_len hG5
              simp at this
            · have el := paired_len hG5
              have hx : (us'.concat x)[us'.length]? = some x := by simp
              obtain ⟨g', hg', b, rfl, hb⟩ := paired_at hG5 hx
              have hat : atI (us'.concat (V.ref b)) (-1) = some (V.ref b) := by rw [List.concat_eq_append]; exact atI_last _ _
              refine ⟨_, rfl, _, rfl, F, _, _, _, rfl, rfl, SqL.of hf5, hat, b, _, _, _, rfl, rfl, SqT.of hb, rfl, _, rfl, _, rfl, F, _, _, _, rfl, rfl, SqL.of hf5, hat, b, _, _, _, rfl, rfl, SqT.of hb, rfl, _, _, rfl, rfl, _, rfl, _, _, rfl, rfl, (by show m ≠ 0; omega), ?_⟩
              exact ⟨_, rfl, b5, pd5.mono (by omega), hf5, hG5, (fmod_rng m1).1, (fmod_rng m1).2⟩
          · exact iteN (fun e => h5 (V.int.inj e)) ⟨r4, rfl, b5, pd5.mono (by omega), hf5, hG5, r40, r41⟩
      · rintro σ' H5 ⟨pl, rfl, bt5, pd5, hf5, hG5, p0, p1⟩
        -- few
        have mn : 1 ≤ (if (4 : Int) < m then (4 : Int) else m) ∧ (if (4 : Int) < m then (4 : Int) else m) ≤ m := by split <;> omega
        refine ⟨_, rfl, _, rfl, _, _, rfl, p, _, _, rfl, pd5, by omega, mn.1, by omega, fun r6 H6 bt6 pd6 r60 r61 => ⟨_, _, rfl, rfl, ?_⟩⟩
        obtain ⟨pu5, hpu5⟩ := pd5.some
        have hf6 := bt6 F _ hpF.symm hf5
        have hG6 := grs_but bt6 hpu5 hG5
        -- many
        have half : 0 ≤ m / 2 ∧ m / 2 ≤ m := by omega
        refine ⟨_, rfl, _, rfl, _, rfl, _, _, rfl, rfl, ⟨by decide, by decide +kernel⟩, _, _, rfl, rfl, p, _, _, rfl, pd6, by omega, by show 1 ≤ m / 2 + 1; omega, by show m / 2 + 1 ≤ 10 ^ 100; omega, fun r7 H7 bt7 pd7 r70 r71 => ⟨_, _, rfl, rfl, ?_⟩⟩
        obtain ⟨pu6, hpu6⟩ := pd6.some
        have hf7 := bt7 F _ hpF.symm hf6
        have hG7 := grs_but bt7 hpu6 hG6
        refine ⟨_, rfl, _, rfl, p, _, _, rfl, pd7, by omega, m1, m100, fun r8 H8 bt8 pd8 r80 r81 => ⟨_, _, rfl, rfl, (by show 3 ≤ sizeLine; decide), fun LL hLL => ?_⟩⟩
        obtain ⟨pu7, hpu7⟩ := pd7.some
        have hf8 := Same.new hLL (o := .lst [.int (1 + r6), .int (1 + r7), .int (1 + r8)]) _ _ (bt8 F _ hpF.symm hf7)
        have hG8 := grs_same (Same.new hLL (o := .lst [.int (1 + r6), .int (1 + r7), .int (1 + r8)])) (grs_but bt8 hpu7 hG7)
        have hLLp : LL ≠ p := fun e => pd8.ne (e ▸ hLL)
        have pd8' := pd8.new hLL (o := .lst [.int (1 + r6), .int (1 + r7), .int (1 + r8)])
        refine ⟨_, rfl, p, 3, _, rfl, pd8', by omega, by decide, by decide +kernel, fun r9 H9 bt9 pd9 r90 r91 => ?_⟩
        obtain ⟨pu8, hpu8⟩ := pd8'.some
        have hf9 := bt9 F _ hpF.symm hf8
        have hG9 := grs_but bt9 hpu8 hG8
        obtain ⟨mv, hmv, hma⟩ := pick (xs := [1 + r6, 1 + r7, 1 + r8]) r90 r91
        have many : 1 ≤ mv ∧ mv ≤ m := by
          simp only [List.mem_cons, List.not_mem_nil, or_false] at hmv
          omega
        have few : 1 ≤ 1 + r6 ∧ 1 + r6 ≤ m := by omega
        have b9 : But p H H9 := (((bt5.trans bt6).trans (bt7.trans bt8)).new hLL).trans bt9
        refine ⟨LL, _, _, _, rfl, rfl, SqL.of (bt9 LL _ hLLp upd_same), hma, ?_⟩
        -- append
        refine ⟨_, rfl, .inl ⟨rfl, _, SqL.of hf9⟩, _, rfl, _, rfl, _, _, rfl, rfl, (by show (2 : Int) ≠ 0; decide), rfl, _, rfl, ?_⟩
        have put : ∀ lv : Int, 1 ≤ lv → lv ≤ m → ∀ T, H9 T = none → But p H (upd (upd H9 T (.tup [.int pl, .int lv])) F (.lst (us ++ [.ref T]))) ∧ Pond (n + 24 + 100 * ((i + 1 : Nat) : Int)) p (upd (upd H9 T (.tup [.int pl, .int lv])) F (.lst (us ++ [.ref T]))) ∧
            (upd (upd H9 T (.tup [.int pl, .int lv])) F (.lst (us ++ [.ref T]))) F = some (.lst (us ++ [.ref T])) ∧ Paired (GrAt (upd (upd H9 T (.tup [.int pl, .int lv])) F (.lst (us ++ [.ref T])))) (us ++ [.ref T]) (gs ++ [(pl, lv)]) ∧
            (gs ++ [(pl, lv)]).length = i + 1 ∧ ∀ g ∈ gs ++ [(pl, lv)], 0 ≤ g.1 ∧ g.1 < m ∧ 1 ≤ g.2 ∧ g.2 ≤ m := by
          intro lv l1 l2 T hT
          have nTF : T ≠ F := fun e => by rw [e, hf9] at hT; cases hT
          have keep : ∀ b xs, H9 b = some (.tup xs) → (upd (upd H9 T (.tup [.int pl, .int lv])) F (.lst (us ++ [.ref T]))) b = some (.tup xs) := fun b xs e => by
            have nb : b ≠ F := ne_of e hf9 (fun z => nomatch z)
            rw [upd_ne nb]
            exact Same.new hT _ _ e
          refine ⟨(b9.new hT).mut hF, ?_, upd_same, paired_snoc (L2.Paired.mapP hG9 fun _ _ ⟨b, e, h⟩ => ⟨b, e, keep _ _ h⟩) ⟨T, rfl, ?_⟩, by simp [hlen], ?_⟩
          · obtain ⟨a, b, c, e1, e2, e3, e4, e5⟩ := pd9.new hT (o := .tup [.int pl, .int lv])
            exact ⟨a, b, c, by rw [upd_ne hpF]; exact e1, e2, e3, e4, by push_cast; omega⟩
          · rw [upd_ne nTF]; exact upd_same
          · intro g hg
            rcases List.mem_append.mp hg with h | h
            · exact hok g h
            · rw [List.mem_singleton.mp h]
              exact ⟨p0, p1, l1, l2⟩
        have hsz : us.length < sizeLine := small1000 (by have := paired_len hG9; omega)
        refine ite2 (fun _ => ⟨_, rfl, (by show 2 ≤ sizeLine; decide), fun T hT => ?_⟩) (fun _ => ⟨_, rfl, (by show 2 ≤ sizeLine; decide), fun T hT => ?_⟩)
        · have nTF : F ≠ T := fun e => by rw [← e, hf9] at hT; cases hT
          refine ⟨F, us, _, rfl, rfl, (by rw [upd_ne nTF]; exact hf9), hsz, gs ++ [(pl, 1 + r6)], us ++ [.ref T], _, _, _, _, rfl, ?_⟩
          exact put _ few.1 few.2 T hT
        · have nTF : F ≠ T := fun e => by rw [← e, hf9] at hT; cases hT
          refine ⟨F, us, _, rfl, rfl, (by rw [upd_ne nTF]; exact hf9), hsz, gs ++ [(pl, mv)], us ++ [.ref T], _, _, _, _, rfl, ?_⟩
          exact put _ many.1 many.2 T hT
    · rintro σ H' ⟨gs, us, y3, y4, y5, y6, rfl, bt, pd, hf, hG, hlen, hok⟩
      refine ⟨_, rfl, F, us, rfl, .inl ⟨SqL.of hf, fun l hl => ?_⟩⟩
      refine q l gs _ (bt.new hl) ((pd.new hl).mono (by omega)) ⟨us, upd_same, grs_same (Same.new hl) hG⟩ ⟨by omega, by omega, hok⟩
end
end Gr

set_option Elab.async false
set_option linter.all false
set_option pp.deepTerms false
set_option pp.maxSteps 3000
set_option maxRecDepth 100000
set_option maxHeartbeats 4000000
set_option exponentiation.threshold 3000
namespace Gr
open PySem PySem.Spec PyProof.Rows L2
/-! ### the rests -/
theorem emod_two {x s : Int} (h0 : -s ≤ x) (h1 : x < 2 * s) (hs : 0 < s) : x % s = if x < 0 then x + s else if x < s then x else x - s := by
  by_cases a : x < 0
  · rw [if_pos a, ← Int.add_emod_right, Int.emod_eq_of_lt (by omega) (by omega)]
  · rw [if_neg a]
    by_cases b : x < s
    · rw [if_pos b, Int.emod_eq_of_lt (by omega) b]
    · rw [if_neg b, ← Int.sub_emod_right, Int.emod_eq_of_lt (by omega) (by omega)]
theorem rest_eq {t o j s : Int} (t0 : 0 ≤ t) (t1 : t < s) (o0 : 0 ≤ o) (o1 : o < s) (j0 : 0 ≤ j) (j1 : j < s) : ((t - o) % s = j) ↔ t = (o + j) % s := by
  rw [emod_two (x := t - o) (s := s) (by omega) (by omega) (by omega), emod_two (x := o + j) (s := s) (by omega) (by omega) (by omega)]
  split <;> split <;> (try split) <;> omega
/-- a dict that holds just the moments of f, each from 0 to below s -/
structure LitP (s : Int) (f : Int → Bool) (kvs : List (Key × V)) : Prop where
  is : ∀ t, 0 ≤ t → t < s → (valV kvs (.inl t)).isSome = f t
  once : (kvs.map (·.1)).Nodup
  rng : ∀ k ∈ kvs.map (·.1), ∃ t, k = .inl t ∧ 0 ≤ t ∧ t < s
theorem keys_put (kvs : List (Key × V)) (k : Key) (y : V) : (k ∈ kvs.map (·.1) ∧ (putK kvs k y).map (·.1) = kvs.map (·.1)) ∨ (¬ k ∈ kvs.map (·.1) ∧ (putK kvs k y).map (·.1) = kvs.map (·.1) ++ [k]) := by
  have h : ((kvs.any fun kv => decide (kv.1 = k)) = true) ↔ k ∈ kvs.map (·.1) := by
    rw [List.any_eq_true, List.mem_map]
    constructor
    · rintro ⟨x, h1, h2⟩; exact ⟨x, h1, of_decide_eq_true h2⟩
    · rintro ⟨x, h1, h2⟩; exact ⟨x, h1, decide_eq_true h2⟩
  unfold putK
  by_cases a : k ∈ kvs.map (·.1)
  · refine .inl ⟨a, ?_⟩
    rw [if_pos (h.mpr a), List.map_map]
    apply List.map_congr_left
    intro p _
    show (if p.1 = k then (p.1, y) else p).1 = p.1
    split <;> rfl
  · refine .inr ⟨a, ?_⟩
    rw [if_neg (fun z => a (h.mp z)), List.map_append]; rfl
theorem LitP.put {s : Int} {f : Int → Bool} {kvs : List (Key × V)} (h : LitP s f kvs) {u : Int} (u0 : 0 ≤ u) (u1 : u < s) (y : V) : LitP s (fun t => f t || decide (t = u)) (putK kvs (.inl u) y) where
  is := fun t t0 t1 => by
    rw [valV_put]
    by_cases e : t = u
    · rw [if_pos (congrArg Sum.inl e), decide_eq_true e, Bool.or_true]; rfl
    · rw [if_neg (fun z => e (Sum.inl.inj z)), decide_eq_false e, Bool.or_false]; exact h.is t t0 t1
  once := by
    rcases keys_put kvs (.inl u) y with ⟨_, e⟩ | ⟨a, e⟩
    · rw [e]; exact h.once
    · rw [e]
      exact List.nodup_append.mpr ⟨h.once, by simp, fun x hx z hz e => a (by rw [← List.mem_singleton.mp hz, ← e]; exact hx)⟩
  rng := fun k hk => by
    rcases keys_put kvs (.inl u) y with ⟨_, e⟩ | ⟨a, e⟩
    · rw [e] at hk; exact h.rng k hk
    · rw [e] at hk
      rcases List.mem_append.mp hk with z | z
      · exact h.rng k z
      · exact ⟨u, List.mem_singleton.mp z, u0, u1⟩
theorem LitP.to {s : Int} {f g : Int → Bool} {kvs : List (Key × V)} (h : LitP s f kvs) (e : ∀ t, 0 ≤ t → t < s → f t = g t) : LitP s g kvs := ⟨fun t t0 t1 => (h.is t t0 t1).trans (e t t0 t1), h.once, h.rng⟩
theorem len_put (kvs : List (Key × V)) (k : Key) (y : V) : (putK kvs k y).length ≤ kvs.length + 1 := by
  unfold putK
  split
  · rw [List.length_map]; omega
  · rw [List.length_append]; exact Nat.le_refl _
def spRests : Sp := fun vs H Q _ => ∃ (g : Addr) (s : Int) (gs : List (Int × Int)), vs = [.int s, .ref g] ∧ SigT H g gs ∧ OkG s gs ∧ s ≤ 10000 ∧ ∀ d kvs H', Same H H' → H d = none → H' d = some (.dK kvs) → LitP s (lit s gs) kvs → Q (.ref d) H'
/-! ### scaled -/
def scal2 (f : Int) (gs : List (Int × Int)) : List (Int × Int) := gs.map fun g => (g.1 * f, g.2 * f)
def spScaled : Sp := fun vs H Q _ => ∃ (g : Addr) (f : Int) (gs : List (Int × Int)), vs = [.ref g, .int f] ∧ SigT H g gs ∧ gs.length ≤ 100 ∧ (∀ x ∈ gs, 0 ≤ x.1 ∧ x.1 ≤ 10 ^ 30 ∧ 0 ≤ x.2 ∧ x.2 ≤ 10 ^ 30) ∧ 0 ≤ f ∧ f ≤ 10 ^ 30 ∧ ∀ a H', Same H H' → SigT H' a (scal2 f gs) → Q (.ref a) H'
theorem mul30 {i j : Int} (i0 : 0 ≤ i) (i1 : i ≤ 10 ^ 30) (j0 : 0 ≤ j) (j1 : j ≤ 10 ^ 30) : CMulW i j := by
  have e : (10 : Int) ^ 30 < ((2 ^ 100 : Nat) : Int) := by decide +kernel
  exact wide_mul (a := 100) (b := 100) (natAbs_lt i0 (by omega)) (natAbs_lt j0 (by omega)) (by decide) (by decide) (by decide)
theorem mulBig {i j : Int} (i0 : i.natAbs < 2 ^ 1000) (j0 : j.natAbs < 2 ^ 1000) : CMulW i j := wide_mul (a := 1000) (b := 1000) i0 j0 (by decide) (by decide) (by decide)
theorem lit_mod (s : Int) (gs : List (Int × Int)) (t : Int) : lit s gs (t % s) = lit s gs t := by
  unfold lit
  congr 1
  funext g
  rw [Int.emod_sub_emod]
theorem lit_far (s : Int) (gs : List (Int × Int)) (t k : Int) : lit s gs (t + k * s) = lit s gs t := by
  rw [← lit_mod s gs (t + k * s), Int.add_mul_emod_self_right, lit_mod]
theorem lit_scal {s f : Int} (gs : List (Int × Int)) (x r : Int) (hs : 0 < s) (hf : 0 < f) (r0 : 0 ≤ r) (r1 : r < f) : lit (s * f) (scal2 f gs) (x * f + r) = lit s gs x := by
  unfold lit scal2
  rw [List.any_map]
  congr 1
  funext g
  show decide ((x * f + r - g.1 * f) % (s * f) < g.2 * f) = decide ((x - g.1) % s < g.2)
  have e : (x * f + r - g.1 * f) % (s * f) = ((x - g.1) % s) * f + r := by
    have h1 : x * f + r - g.1 * f = (((x - g.1) % s) * f + r) + (s * f) * ((x - g.1) / s) := by
      have := Int.emod_add_mul_ediv (x - g.1) s
      have h2 : (x - g.1) * f = ((x - g.1) % s + s * ((x - g.1) / s)) * f := by rw [this]
      rw [Int.sub_mul, Int.add_mul] at h2
      have h3 : s * ((x - g.1) / s) * f = s * f * ((x - g.1) / s) := by rw [Int.mul_right_comm]
      omega
    rw [h1, Int.add_mul_emod_self_left]
    have m0 := Int.emod_nonneg (x - g.1) (show s ≠ 0 by omega)
    have m1 := Int.emod_lt_of_pos (x - g.1) hs
    have a : ((x - g.1) % s) * f ≥ 0 := Int.mul_nonneg m0 (by omega)
    have b : ((x - g.1) % s + 1) * f ≤ s * f := Int.mul_le_mul_of_nonneg_right (by omega) (by omega)
    rw [Int.add_mul, Int.one_mul] at b
    exact Int.emod_eq_of_lt (by omega) (by omega)
  rw [e]
  congr 1
  apply propext
  constructor
  · intro h
    have : ((x - g.1) % s) * f < g.2 * f := by omega
    exact Int.lt_of_mul_lt_mul_right this (by omega)
  · intro h
    have b : ((x - g.1) % s + 1) * f ≤ g.2 * f := Int.mul_le_mul_of_nonneg_right (by omega) (by omega)
    rw [Int.add_mul, Int.one_mul] at b
    omega
/-! ### truths told by repr -/
theorem textFrom_le : ∀ (ts : List Str) (k : Nat) (acc : Str), (∀ t ∈ ts, t.length ≤ 5) → (textFrom k acc ts).length ≤ acc.length + 7 * ts.length
  | [], k, acc, _ => Nat.le_refl _
  | t :: r, k, acc, h => by
    have ih := textFrom_le r (k + 1) (acc ++ (if k > 0 then ", " else "" : String) ++ t) (fun x hx => h x (List.mem_cons_of_mem _ hx))
    have e : (acc ++ (if k > 0 then ", " else "" : String) ++ t).length ≤ acc.length + 2 + 5 := by
      rw [strLen_append, strLen_append]
      have := h t List.mem_cons_self
      have z : (Str.ofString (if k > 0 then ", " else "" : String)).length ≤ 2 := by split <;> decide
      omega
    show (textFrom (k + 1) (acc ++ (if k > 0 then ", " else "" : String) ++ t) r).length ≤ _
    rw [List.length_cons]
    omega
def boolsD (bs : List Bool) : PyData := .list (bs.map PyData.bool)
theorem shownAll_b : ∀ bs : List Bool, (∀ t ∈ PyData.shownAll (bs.map PyData.bool), t.length ≤ 5) ∧ (PyData.shownAll (bs.map PyData.bool)).length = bs.length
  | [] => ⟨fun _ h => by simp [PyData.shownAll] at h, rfl⟩
  | b :: bs => by
    have ih := shownAll_b bs
    refine ⟨fun t h => ?_, by simpa [PyData.shownAll] using ih.2⟩
    simp only [List.map_cons, PyData.shownAll, List.mem_cons] at h
    rcases h with rfl | h
    · cases b <;> decide
    · exact ih.1 t h
theorem bools_len (bs : List Bool) (h : bs.length ≤ 10000) : (boolsD bs).shown.length ≤ sizeLine := by
  have h1 := shownAll_b bs
  have h2 := textFrom_le _ 0 "[" h1.1
  have e : (boolsD bs).shown = textFrom 0 "[" (PyData.shownAll (bs.map PyData.bool)) ++ "]" := by
    unfold boolsD
    simp only [PyData.shown, listText]
  rw [e, strLen_append]
  rw [h1.2] at h2
  have z1 : (Str.ofString "[").length = 1 := by decide
  have z2 : (Str.ofString "]").length = 1 := by decide
  rw [z1] at h2
  rw [z2, sizeLine_eq]
  omega
theorem bools_show : ∀ bs : List Bool, (boolsD bs).showable = true ∧ (boolsD bs).hasDict = false ∧ (boolsD bs).depth ≤ 40 := fun bs => by
  have a : PyData.showableAll (bs.map PyData.bool) = true := by
    induction bs with
    | nil => simp [PyData.showableAll]
    | cons b r ih => simp [PyData.showableAll, PyData.showable, ih]
  have b : PyData.hasDictAll (bs.map PyData.bool) = false := by
    induction bs with
    | nil => simp [PyData.hasDictAll]
    | cons b r ih => simp [PyData.hasDictAll, PyData.hasDict] ; simp [PyData.showableAll, PyData.showable] at a; exact ih a
  have c : PyData.depthAll (bs.map PyData.bool) ≤ 5 := by
    clear a b
    induction bs with
    | nil => simp [PyData.depthAll]
    | cons b r ih => simp only [List.map_cons, PyData.depthAll, PyData.depth]; omega
  unfold boolsD
  refine ⟨by simpa only [PyData.showable] using a, by simpa only [PyData.hasDict] using b, ?_⟩
  simp only [PyData.depth]
  omega
theorem dp_bools {K : PySem.W.Frag} {H : Hp} : ∀ bs : List Bool, DpAll K H (bs.map V.bl) (bs.map PyData.bool)
  | [] => .nil
  | b :: bs => .cons (.bl b) (dp_bools bs)
section
variable {P : Program} {w : World} {K : PySem.W.Frag} {mg : Str → Option Value} {base : Heap} {tC tG : Tok}
theorem ok_rests {f : Addr} {fd : FuncData} (B : Blt mg tC tG) (Dl_rests : Def K mg "_law_rests" s_l_rests ["_law_span", "_law_greens_here"] f fd) : FnOk P w K mg base CX0 1 f fd ["_law_span", "_law_greens_here"] spRests := by
  refine Dl_rests.F.ok scl_rests (fun vs H Q E h => ?_) (fun cdv A outer s H vs Q E hr h => ⟨_, (pss_cons (ps_set (i := 2) scl_rests.nd rfl (Or.inl rfl) pe_dnewK)
  (pss_cons (ps_for PassesOwn.never rfl (pi_tup (pv 1)) (pg_tup rfl (pgs_cons (pg_name (i := 3) scl_rests.nd rfl (Or.inl rfl)) (pgs_cons (pg_name (i := 4) scl_rests.nd rfl (Or.inl rfl)) pgs_nil)))
   (pss_one (ps_for PassesOwn.never rfl (pi_range1 (by rfl) B.range (pa_cons (pv 4) pa_nil)) (pg_name (i := 5) scl_rests.nd rfl (Or.inl rfl))
   (pss_one (ps_dput (hu_of hr) (pv 2) (pe_op op_modN (pe_op op_add (pv 3) (pv 5)) (pv 0)) pe_bl rfl)))))
  (pss_one (ps_ret (pv 2))))), ?_⟩)
  · obtain ⟨g, m, gs, rfl, _⟩ := h; rfl
  · obtain ⟨g, m, gs, rfl, ⟨xs, hT, hP⟩, hG, hm, q⟩ := h
    have el := paired_len hP
    refine fun d hd => ?_
    refine ⟨_, rfl, g, rfl, ⟨_, SqT.of (Same.new hd _ _ hT)⟩, ?_⟩
    refine for_tup (xs := xs) (fun i σ H' => ∃ kvs y3 y4 y5, σ = [some (.int m), some (.ref g), some (.ref d), y3, y4, y5] ∧ Same H H' ∧ H' d = some (.dK kvs) ∧ LitP m (lit m (gs.take i)) kvs ∧ kvs.length ≤ i * 10000)
      ⟨[], none, none, none, rfl, Same.new hd, upd_same, ⟨fun t _ _ => rfl, List.nodup_nil, fun _ h => (List.not_mem_nil h).elim⟩, Nat.zero_le _⟩ (fun i σ H' _ ⟨_, _, _, _, _, s1, _⟩ => SqT.of (s1 _ _ hT)) ?_ ?_
    · rintro i x σ H' hx ⟨kvs, y3, y4, y5, rfl, s1, e1, hL, hz⟩
      obtain ⟨gr, hg, b, rfl, hb⟩ := paired_at hP hx
      have hin := hG.2.2 gr (List.mem_of_getElem? hg)
      have i6 : i < 6 := by have := (List.getElem?_eq_some_iff.mp hg).1; have := hG.2.1; omega
      refine ⟨b, _, rfl, SqT.of (s1 _ _ hb), rfl, _, _, rfl, _, _, rfl, rfl, ?_⟩
      refine ⟨_, rfl, gr.2, rfl, by omega, by omega, ?_⟩
      refine for_range (lo := 0) (fun j σ H' => ∃ kvs y5, σ = [some (.int m), some (.ref g), some (.ref d), some (.int gr.1), some (.int gr.2), y5] ∧ Same H H' ∧ H' d = some (.dK kvs) ∧
          LitP m (fun t => lit m (gs.take i) t || decide ((t - gr.1) % m < (j : Int))) kvs ∧ kvs.length ≤ i * 10000 + j) ⟨kvs, y5, rfl, s1, e1, hL.to fun t _ _ => ?_, by omega⟩ ?_ ?_
      · have := Int.emod_nonneg (t - gr.1) (show m ≠ 0 by omega)
        rw [decide_eq_false (by omega), Bool.or_false]
      · rintro j σ H2 hj ⟨kv, y, rfl, s2, e2, hL2, hz2⟩
        refine ⟨_, rfl, _, rfl, _, rfl, _, _, rfl, rfl, _, rfl, _, _, rfl, rfl, (by show m ≠ 0; omega), ?_⟩
        refine ⟨d, _, rfl, DPut.k (k := .inl _) e2 (by rw [sizeLine_eq]; omega), ?_⟩
        have e3 : (gr.1 + (0 + (j : Int))).fmod m = (gr.1 + (j : Int)) % m := by rw [Int.fmod_eq_emod_of_nonneg _ (by omega), Int.zero_add]
        have u0 := Int.emod_nonneg (gr.1 + (j : Int)) (show m ≠ 0 by omega)
        have u1 := Int.emod_lt_of_pos (gr.1 + (j : Int)) (show 0 < m by omega)
        refine ⟨_, _, rfl, fun b' o h => ?_, upd_same, ?_, ?_⟩
        · rw [upd_ne (ne_of_none h hd)]; exact s2 _ _ h
        · rw [e3]
          refine (hL2.put u0 u1 _).to fun t t0 t1 => ?_
          have := rest_eq (t := t) (o := gr.1) (j := (j : Int)) t0 t1 hin.1 hin.2.1 (by omega) (by omega)
          rw [Bool.or_assoc]
          congr 1
          rw [← Bool.decide_or]
          congr 1
          apply propext
          rw [← this]
          push_cast
          omega
        · have := len_put kv (.inl ((gr.1 + (0 + (j : Int))).fmod m)) (.bl true)
          omega
      · rintro σ H2 ⟨kv, y, rfl, s2, e2, hL2, hz2⟩
        refine ⟨kv, _, _, _, rfl, s2, e2, hL2.to fun t t0 t1 => ?_, by omega⟩
        unfold lit
        rw [List.take_add_one, hg, List.any_append]
        congr 1
        show _ = (decide ((t - gr.1) % m < gr.2) || false)
        rw [Bool.or_false, Int.toNat_of_nonneg (by omega)]
    · rintro σ H' ⟨kvs, y3, y4, y5, rfl, s1, e1, hL, hz⟩
      rw [List.take_of_length_le (by omega)] at hL
      exact ⟨_, rfl, q d kvs H' s1 hd e1 hL⟩
theorem ok_scaled {f : Addr} {fd : FuncData} (B : Blt mg tC tG) (Dl_scaled : Def K mg "_law_scaled" s_l_scaled ["_law_greens_here", "_law_factor"] f fd) : FnOk P w K mg base CX0 1 f fd ["_law_greens_here", "_law_factor"] spScaled := by
  refine Dl_scaled.F.ok scl_scaled (fun vs H Q E h => ?_) (fun cdv A outer s H vs Q E hr h => ⟨_, (pss_one (ps_ret (pe_callTy call_tuple_of (by rfl) B.n_tuple (by decide +kernel) (pa_cons (pe_lc (own := [("_law_place", 2), ("_law_size", 3)]) (g := (gTup K 2 (gCons (gName 2) (gCons (gName 3) gNil)))) (tt := tYes) rfl scl_scaled.nd (pi_tup (pv 0)) (blkOk_by (N := ["_law_greens_here", "_law_factor", "_law_place", "_law_size"]) (sc := defScope s_l_scaled) (by decide +kernel)) (fun _ _ _ _ _ => (pg_tup rfl (pgs_cons (pg_name (i := 2) scl_scaled.nd rfl (Or.inl rfl)) (pgs_cons (pg_name (i := 3) scl_scaled.nd rfl (Or.inl rfl)) pgs_nil)))) (fun _ _ _ _ _ => pts_nil) (fun _ _ _ _ _ => (pe_tup (pa_cons (pe_op op_mulW (pv 2) (pv 1)) (pa_cons (pe_op op_mulW (pv 3) (pv 1)) pa_nil))))) pa_nil)))), ?_⟩)
  · obtain ⟨g, m, gs, rfl, _⟩ := h; rfl
  · obtain ⟨g, m, gs, rfl, ⟨xs, hT, hP⟩, hl, hb, m0, m1, q⟩ := h
    have el := paired_len hP
    refine ⟨_, rfl, g, rfl, ⟨_, SqT.of hT⟩, fun D hD => ?_⟩
    refine lc_tup (xs := xs) (fun i H' => ∃ ys, Same H H' ∧ H' D = some (.lst ys) ∧ Paired (GrAt H') ys (scal2 m (gs.take i))) ⟨[], Same.new hD, upd_same, .nil⟩ (fun i H' _ ⟨_, s1, _⟩ => SqT.of (s1 _ _ hT)) ?_ ?_
    · rintro i x H' hx ⟨ys, s1, e1, hY⟩
      obtain ⟨gr, hg, b, rfl, hbT⟩ := paired_at hP hx
      have hin := hb gr (List.mem_of_getElem? hg)
      refine ⟨b, _, rfl, SqT.of (s1 _ _ hbT), rfl, _, _, rfl, _, _, rfl, rfl, rfl, ?_⟩
      refine ⟨_, rfl, _, rfl, _, _, rfl, rfl, mul30 hin.1 hin.2.1 m0 m1, _, rfl, _, rfl, _, _, rfl, rfl, mul30 hin.2.2.1 hin.2.2.2 m0 m1, (by show 2 ≤ sizeLine; decide), fun T hT2 => ?_⟩
      have nTD : D ≠ T := fun e => by rw [← e, e1] at hT2; cases hT2
      have lz : ys.length < sizeLine := small1000 (by
        have := paired_len hY
        rw [scal2, List.length_map, List.length_take] at this
        omega)
      refine ⟨ys, (by rw [upd_ne nTD]; exact e1), lz, ys ++ [.ref T], fun b' o h => ?_, upd_same, ?_⟩
      · rw [upd_ne (ne_of_none h hD)]
        exact Same.new hT2 _ _ (s1 _ _ h)
      · unfold scal2
        rw [List.take_add_one, hg, List.map_append]
        refine paired_snoc (L2.Paired.mapP hY fun _ _ ⟨b, e, h⟩ => ⟨b, e, ?_⟩) ⟨T, rfl, ?_⟩
        · rw [upd_ne (ne_of h e1 (fun z => nomatch z))]
          exact Same.new hT2 _ _ h
        · rw [upd_ne nTD.symm]; exact upd_same
    · rintro H' ⟨ys, s1, e1, hY⟩
      rw [List.take_of_length_le (by omega)] at hY
      exact ⟨D, ys, rfl, .inl ⟨SqL.of e1, fun l hl => q l _ (s1.trans (Same.new hl)) ⟨ys, upd_same, grs_same (Same.new hl) hY⟩⟩⟩
end
end Gr

set_option Elab.async false
set_option linter.all false
set_option maxRecDepth 100000
set_option maxHeartbeats 4000000
/-! t[::-1] of a tuple, repr of what is no object. -/
namespace Gr
open PySem PySem.Spec PyProof.Rows L2 HT
section
variable {prog : Program} {w : World} {A : Around} {E : Value → Shared → Prop} {s : Shared}
theorem back_places (n : Nat) : Builtin.Slice.slicePlaces ((n : Int) - 1) (-1) (-1) = n := by
  unfold Builtin.Slice.slicePlaces
  rw [if_neg (by decide)]
  by_cases h : (n : Int) - 1 > -1
  · rw [if_pos h]
    simp only [Int.neg_neg, Int.ediv_one]
    omega
  · rw [if_neg h]; omega
theorem back_applied {sl : Addr} {n : Nat} {t : Tok} {Q : Int × Int × Nat → Shared → Prop} (hs : s.heap.IsSliceOf sl .none .none (.int (-1) t)) (h : Q ((n : Int) - 1, -1, n) s) :
    wpAny (model prog w) A (Builtin.Slice.sliceApplied (.ref sl) (pure (n : Int))) Q E s := by
  obtain ⟨os, e1, e2, e3⟩ := id hs
  unfold Builtin.Slice.sliceApplied Builtin.Slice.sliceFields
  apply wpAny_bind
  apply wpAny_bind
  refine wpAny_field e1 e3 (x := .none) rfl ?_
  apply wpAny_bind
  refine wpAny_field e1 e3 (x := .none) rfl ?_
  apply wpAny_bind
  refine wpAny_field e1 e3 (x := .int (-1) t) rfl (wpAny_pure ?_)
  refine wpAny_bind (slicePart_int ?_)
  show wpAny _ _ (if ((-1 : Int) == 0) = true then _ else _) _ _ s
  rw [if_neg (by decide)]
  apply wpAny_bind
  apply slicePart_none
  apply wpAny_bind
  apply slicePart_none
  refine wpAny_bind (wpAny_pure ?_)
  show wpAny _ _ (pure ((n : Int) - 1, (-1 : Int), Builtin.Slice.slicePlaces ((n : Int) - 1) (-1) (-1))) _ _ s
  rw [back_places]
  exact wpAny_pure h
theorem fm_congr {α β : Type} {f g : α → Option β} : ∀ {l : List α}, (∀ x ∈ l, f x = g x) → l.filterMap f = l.filterMap g
  | [], _ => rfl
  | a :: r, h => by
    rw [List.filterMap_cons, List.filterMap_cons, h a List.mem_cons_self, fm_congr fun x hx => h x (List.mem_cons_of_mem _ hx)]
theorem back_pick (xs : Array Value) : ((List.range xs.size).filterMap fun (m : Nat) => xs[(((xs.size : Int) - 1) + (m : Int) * (-1)).toNat]?).toArray = xs.toList.reverse.toArray := by
  congr 1
  have key : ∀ m ∈ List.range xs.size, xs[(((xs.size : Int) - 1) + (m : Int) * (-1)).toNat]? = xs.toList.reverse[m]? := by
    intro m hm
    have hm' : m < xs.size := List.mem_range.mp hm
    rw [List.getElem?_reverse (by simpa using hm')]
    have e : (((xs.size : Int) - 1) + (m : Int) * (-1)).toNat = xs.toList.length - 1 - m := by
      rw [Array.length_toList]; omega
    rw [e, Array.getElem?_toList]
  rw [fm_congr key]
  have : ∀ l : List Value, (List.range l.length).filterMap (fun m => l[m]?) = l := by
    intro l
    induction l with
    | nil => rfl
    | cons a r ih =>
      rw [List.length_cons, List.range_succ_eq_map, List.filterMap_cons]
      show a :: _ = _
      rw [List.filterMap_map]
      exact congrArg (a :: ·) ih
  have z := this xs.toList.reverse
  rw [List.length_reverse, Array.length_toList] at z
  exact z
theorem getItem_tuple_back {t sl : Addr} {items : Array Value} {u : Tok} {Q : Value → Shared → Prop} (ht : IsTup s.heap t items) (hs : s.heap.IsSliceOf sl .none .none (.int (-1) u))
    (h : Q (.ref s.heap.objs.size) { s with heap := s.heap.push { cls := .type "tuple", data := .seq items.toList.reverse.toArray } }) (hsz : items.size ≤ sizeLine) : wpAny (model prog w) A (getItem (.ref t) (.ref sl)) Q E s := by
  have ok : sizeOk (.seq items.toList.reverse.toArray) := by
    show items.toList.reverse.toArray.size ≤ sizeLine
    rw [List.size_toArray, List.length_reverse, Array.length_toList]
    exact hsz
  obtain ⟨os, e1, e2, e3⟩ := id hs
  have tS : s.TypeIs (.ref sl) "slice" := ⟨os, e1, e2⟩
  unfold getItem
  try with_reducible refine wpAny_holding ?_
  first | refine wpAny_bind (wpAny_pure ?_) | skip
  apply wpAny_bind
  apply wpAny_sequenceKey ht.typeIs (by decide)
  apply wpAny_bind
  refine wpAny_callSpecial?_slot (name := Str.ofString "__getitem__") ht.typeIs PyProof.Rows.slot_tuple_getitem ?_
  refine wpAny_call_entry PyProof.Rows.slot_tuple_getitem ht.typeIs entry_tuple_getitem ?_ (args_tuple_getitem _ _)
  show wpAny _ _ (Builtin.Tuple.tupleItemsOf (.ref t) >>= _) _ _ s
  apply wpAny_bind
  apply tupleItemsOf_ ht
  apply wpAny_bind
  apply wpAny_typeOf tS
  rw [if_pos (by decide)]
  apply wpAny_bind
  apply back_applied hs
  have no : ¬ ((((items.size : Int) - 1) == 0 && (-1 : Int) == 1 && items.size == items.size) = true) := by
    rw [show ((-1 : Int) == 1) = false from rfl, Bool.and_false, Bool.false_and]
    exact Bool.false_ne_true
  show wpAny _ _ (if (((items.size : Int) - 1) == 0 && (-1 : Int) == 1 && items.size == items.size) = true then _ else _) _ _ s
  rw [if_neg no, back_pick]
  first
    | exact wpAny_bind (m := Builtin.Tuple.tupleExact _) (wpAny_newObj_type (wpAny_pure ⟨_, rfl, wpAny_pure h⟩) ok)
    | exact wpAny_bind (m := Builtin.Tuple.tupleExact _) (wpAny_newObj_type (wpAny_bind (wpAny_pure (wpAny_pure ⟨_, rfl, wpAny_pure h⟩))) ok)
    | exact wpAny_bind (wpAny_bind (m := Builtin.Tuple.tupleExact _) (wpAny_newObj_type (wpAny_pure (wpAny_pure ⟨_, rfl, wpAny_pure h⟩)) ok))
    | exact wpAny_bind (wpAny_bind (m := Builtin.Tuple.tupleExact _) (wpAny_newObj_type (wpAny_pure ⟨_, rfl, wpAny_pure h⟩) ok))
end
section
variable {X : Cx}
/-- t[::-1] -/
def tRevT (K : PySem.W.Frag) (te : TE) : TE := fun σ H Q => te σ H fun x H1 => ∃ a xs, x = .ref a ∧ SqT K H1 a xs ∧ ∀ p, H1 p = none → Q (.ref p) (upd H1 p (.tup xs.reverse))
theorem pe_revT {e : Expr} {te : TE} {k : Nat} {p1 p2 p3 pos : Pos} (he : PE X e te) : PE X (.Subscript e (.Slice none none (some (.UnaryOp .USub (.Constant (.int 1) k p1) p2)) p3) pos) (tRevT X.K te) where
  run := by
    intro pins s σ H Q I h
    apply Subscript_
    refine thn (he.run pins s σ H _ I h) ?_
    rintro v s1 ⟨x, H1, I1, r1, a, xs, rfl, hx, q⟩
    cases r1
    have step : PO X (some (.UnaryOp .USub (.Constant (.int 1) k p1) p2)) (tPart (tUn (rU fun i => .int (-i)) (tC (.int 1)))) := po_some (pe_un un_neg pe_int)
    apply wpAny_Slice
    refine thn (po_none.run pins s1 σ H1 (fun o G => o = none ∧ G = H1) I1 ⟨rfl, rfl⟩) ?_
    rintro vl s2 ⟨_, G2, I2, pl, rfl, g2⟩
    rw [g2] at I2
    refine thn (po_none.run pins s2 σ H1 (fun o G => o = none ∧ G = H1) I2 ⟨rfl, rfl⟩) ?_
    rintro vu s3 ⟨_, G3, I3, pu, rfl, g3⟩
    rw [g3] at I3
    refine thn (step.run pins s3 σ H1 (fun o G => o = some (-1) ∧ G = H1) I3 ⟨1, rfl, -1, rfl, rfl, rfl⟩) ?_
    rintro vs s4 ⟨_, G4, I4, ps, rfl, g4⟩
    rw [g4] at I4
    cases pl
    cases pu
    cases ps with
    | int i t =>
      have I5 : Inv X pins σ H1 { s4 with heap := s4.heap.push { cls := .type "slice", data := .fields #[.none, .none, .int (-1) t] } } := I4.kept (t' := s4.toks) fun b ob q => Heap.get?_push_of_some _ q
      obtain ⟨its, r, ht, hz⟩ := I5.tuple hx
      have hlen : its.toArray.size = xs.length := by rw [List.size_toArray]; exact r.length.symm
      show wpAny (model X.prog X.w) X.A (subscriptTail e (.Slice none none (some (.UnaryOp .USub (.Constant (.int 1) k p1) p2)) p3) (.ref a) (.ref s4.heap.objs.size)) (EP X pins σ Q) X.xe { s4 with heap := s4.heap.push { cls := .type "slice", data := .fields #[.none, .none, .int (-1) t] } }
      refine tail_any (ops := [.ref a, .ref s4.heap.objs.size]) ht.typeIs (PyProof.Rows.slot_tuple_getitem.lookup) ?_ (by with_unfolding_all rfl)
      refine getItem_tuple_back ht (Heap.IsSliceOf.new _ .none .none (.int (-1) t)) ?_ (by rw [hlen]; exact hz)
      refine ⟨.ref _, _, I5.laid (t' := s4.toks) (o := .tup xs.reverse) (fun b ob q => Heap.get?_push_of_some _ q) (Nat.le_refl _) ?_, rfl, q _ (I5.hok.fresh (Nat.le_refl _))⟩
      exact ⟨by rw [List.length_reverse]; exact hz, its.toArray.toList.reverse, by simpa using r.reverse, IsTup.new _ _⟩

/-- repr of an object, a truth, None, an int -/
def rReprA (K : PySem.W.Frag) : List V → Hp → VK → Prop := fun xs H Q => ∃ (x : V) (d : PyData), xs = [x] ∧ Dp K H x d ∧ d.showable = true ∧ d.hasDict = false ∧ d.depth ≤ 40 ∧ d.shown.length ≤ sizeLine ∧ (∀ y, x ≠ .str y) ∧ Q (.str d.shown) H
theorem call_reprA (hf : Free X.A) (hu : X.A.units + 64 < cLine) : CallR X (.builtin "repr") (rReprA X.K) := by
  rintro pins s σ H xs us Q I r ⟨x, d, rfl, hD, hs, hd, h20, hz, hy, q⟩
  obtain ⟨u, rfl, hr⟩ := vals1 r
  cases hD with
  | non =>
    cases (show u = Value.none from hr)
    exact PySem.P.repr_of_none ⟨.str _, H, I.tok _, ⟨_, rfl⟩, by simpa [PyData.shown] using q⟩
  | bl b =>
    cases (show u = Value.bool b from hr)
    exact PySem.P.repr_of_bool ⟨.str _, H, I.tok _, ⟨_, rfl⟩, by simpa [PyData.shown] using q⟩
  | int i =>
    obtain ⟨t, rfl⟩ := (show ∃ t, u = Value.int i t from hr)
    exact PySem.P.repr_of_int (by simpa [PyData.showable] using hs) ⟨.str _, H, I.tok _, ⟨_, rfl⟩, by simpa [PyData.shown] using q⟩
  | str y => exact absurd rfl (hy y)
  | @lst a ys ds h1 h2 => exact call_reprD hf hu pins s σ H [.ref a] [u] Q I r ⟨a, _, rfl, .lst h1 h2, hs, hd, h20, hz, q⟩
  | @tup a ys ds h1 h2 => exact call_reprD hf hu pins s σ H [.ref a] [u] Q I r ⟨a, _, rfl, .tup h1 h2, hs, hd, h20, hz, q⟩
end
end Gr

set_option Elab.async false
set_option linter.all false
set_option pp.deepTerms false
set_option pp.maxSteps 3000
set_option maxRecDepth 100000
set_option maxHeartbeats 8000000
set_option exponentiation.threshold 3000
namespace Gr
open PySem PySem.Spec PyProof.Rows L2
theorem scal2_ok {s f c : Int} {gs : List (Int × Int)} (h : OkG s gs) (hf : 1 ≤ f) (hc : s * f ≤ c) : OkG c (scal2 f gs) := by
  refine ⟨by rw [scal2, List.length_map]; exact h.1, by rw [scal2, List.length_map]; exact h.2.1, fun x hx => ?_⟩
  obtain ⟨g, hg, rfl⟩ := List.mem_map.mp hx
  have k := h.2.2 g hg
  have a : 0 ≤ g.1 * f := Int.mul_nonneg k.1 (by omega)
  have b : (g.1 + 1) * f ≤ s * f := Int.mul_le_mul_of_nonneg_right (by omega) (by omega)
  have d : 1 * f ≤ g.2 * f := Int.mul_le_mul_of_nonneg_right (by omega) (by omega)
  have e : g.2 * f ≤ s * f := Int.mul_le_mul_of_nonneg_right (by omega) (by omega)
  rw [Int.add_mul] at b
  show 0 ≤ g.1 * f ∧ g.1 * f < c ∧ 1 ≤ g.2 * f ∧ g.2 * f ≤ c
  omega
theorem bool_fits (b : Bool) : (PyData.bool b).showable = true ∧ (PyData.bool b).hasDict = false ∧ (PyData.bool b).depth ≤ 40 ∧ (PyData.bool b).shown.length ≤ sizeLine := by
  refine ⟨by simp [PyData.showable], by simp [PyData.hasDict], by simp [PyData.depth], ?_⟩
  rw [sizeLine_eq]
  cases b <;> simp [PyData.shown] <;> decide
/-- a signal with one thing more that is no green -/
theorem sigK_more {H : Hp} {a T W : Addr} {c : Int} {gs : List (Int × Int)} {xs : List V} (hP : Paired (GrAt H) xs gs) (hW : H W = some (.tup (xs ++ [.ref T]))) {o l : Int} (hT : H T = some (.tup [.int o, .int l])) (hb : pairB c o l = false) : SigK H c (.ref W) false := by
  have el := paired_len hP
  by_cases h6 : xs.length + 1 ≤ 6
  · refine .inr (.inr ⟨W, xs ++ [.ref T], gs.map (fun g => pairB c g.1 g.2) ++ [false], rfl, hW, by simp, by simpa using h6, paired_snoc ?_ (.inl ⟨T, o, l, rfl, hT, hb.symm⟩), by simp⟩)
    clear hW el h6
    induction hP with
    | nil => exact .nil
    | cons r t ih =>
      obtain ⟨b, e, h⟩ := r
      exact .cons (.inl ⟨b, _, _, e, h, rfl⟩) ih
  · exact .inr (.inl ⟨W, xs ++ [.ref T], rfl, hW, by simp; omega, rfl⟩)
def lits (s : Int) (gs : List (Int × Int)) (lo : Int) (n : Nat) : List Bool := (List.range n).map fun (j : Nat) => lit s gs (lo + (j : Int))
theorem lits_len (s : Int) (gs : List (Int × Int)) (lo : Int) (n : Nat) : (lits s gs lo n).length = n := by rw [lits, List.length_map, List.length_range]
theorem lits_succ (s : Int) (gs : List (Int × Int)) (lo : Int) (n : Nat) : lits s gs lo (n + 1) = lits s gs lo n ++ [lit s gs (lo + (n : Int))] := by rw [lits, List.range_succ, List.map_append]; rfl
def spRight : Sp := fun vs H Q _ => ∃ (p g : Addr) (s n : Int) (gs : List (Int × Int)), vs = [.ref p, .int s, .ref g] ∧ Pond n p H ∧ n ≤ 10 ^ 7 ∧ SigT H g gs ∧ OkG s gs ∧ 1 ≤ s ∧ s ≤ 40 ∧ ∀ H', But p H H' → Pond (n + 1000) p H' → Q (.bl true) H'
section
variable {P : Program} {w : World} {K : PySem.W.Frag} {mg : Str → Option Value} {base : Heap} {tC tG : Tok}
theorem ok_right {f f1 f2 f3 f4 f5 : Addr} {fd fd1 fd2 fd3 fd4 fd5 : FuncData} (B : Blt mg tC tG) (Dl_right : Def K mg "_law_right" s_l_right ["_law_pond_here", "_law_span", "_law_greens_here"] f fd) (Dl_fish : Def K mg "_law_fish" s_l_fish ["_law_pond_here", "_law_bound"] f1 fd1) (Dl_rests : Def K mg "_law_rests" s_l_rests ["_law_span", "_law_greens_here"] f2 fd2) (Dl_scaled : Def K mg "_law_scaled" s_l_scaled ["_law_greens_here", "_law_factor"] f3 fd3) (Dis_green : Def K mg "is_green" s_is_green ["cycle", "signal", "moment"] f4 fd4) (Dis_signal : Def K mg "is_signal" s_is_signal ["value", "cycle"] f5 fd5)
    (Gis_green : FnOk P w K mg base CX0 5 f4 fd4 ["cycle", "signal", "moment"] spGreen) (Gis_signal : FnOk P w K mg base CX0 3 f5 fd5 ["value", "cycle"] spSignal) : FnG P w K mg base CX0 6 f fd ["_law_pond_here", "_law_span", "_law_greens_here"] spRight := by
  have Gl_fish := ok_fish (P := P) (w := w) (base := base) B Dl_fish
  have Gl_rests := ok_rests (P := P) (w := w) (base := base) B Dl_rests
  have Gl_scaled := ok_scaled (P := P) (w := w) (base := base) B Dl_scaled
  refine okG Dl_right.F scl_right (fun vs H Q E h => ?_) (fun cdv A outer s H vs Q E hf hr h => ⟨_, (pss_cons (ps_set (i := 3) scl_right.nd rfl (Or.inr rfl) (pe_call Gl_rests (hr.mono (by decide)) (by rfl) Dl_rests.g Dl_rests.F.kp Dl_rests.b .nil pass0 (pa_cons (pv 1) (pa_cons (pv 2) pa_nil))))
  (pss_cons (ps_setLc (i := 4) (own := [("_law_t", 5)]) (g := (gName 5)) (tt := tYes) rfl scl_right.nd rfl rfl (sw_true rfl rfl rfl (by decide +kernel)) (pi_range2 (by rfl) B.range (pa_cons (pe_op op_sub (pe_op op_sub pe_int (pv 1)) pe_int) (pa_cons (pe_op op_add (pe_op op_mulW pe_int (pv 1)) pe_int) pa_nil))) (blkOk_by (N := ["_law_pond_here", "_law_span", "_law_greens_here", "_law_lit", "_law_due", "_law_t", "_law_factor", "_law_great", "_law_told", "_law_turn", "_law_far", "_law_rest"]) (sc := defScope s_l_right) (by decide +kernel)) (fun _ _ _ _ _ => (pg_name (i := 5) scl_right.nd rfl (Or.inl rfl))) (fun _ _ _ _ _ => pts_nil) (fun _ _ _ _ _ => (pe_cmp (pc_din (hu_of hr) (pe_op op_modN (pv 5) (pv 1)) (pv 3)) rfl)))
  (pss_cons (ps_if (pt_cmpR op_ne (pe_callB (call_reprA hf hr.units) (by rfl) B.n_repr (by decide +kernel) (pa_cons (pe_lc (own := [("_law_t", 5)]) (g := (gName 5)) (tt := tYes) rfl scl_right.nd (pi_range2 (by rfl) B.range (pa_cons (pe_op op_sub (pe_op op_sub pe_int (pv 1)) pe_int) (pa_cons (pe_op op_add (pe_op op_mulW pe_int (pv 1)) pe_int) pa_nil))) (blkOk_by (N := ["_law_pond_here", "_law_span", "_law_greens_here", "_law_lit", "_law_due", "_law_t", "_law_factor", "_law_great", "_law_told", "_law_turn", "_law_far", "_law_rest"]) (sc := defScope s_l_right) (by decide +kernel)) (fun _ _ _ _ _ => (pg_name (i := 5) scl_right.nd rfl (Or.inl rfl))) (fun _ _ _ _ _ => pts_nil) (fun _ _ _ _ _ => (pe_call Gis_green (hr.mono (by decide)) (by rfl) Dis_green.g Dis_green.F.kp Dis_green.b .nil pass0 (pa_cons (pv 1) (pa_cons (pv 2) (pa_cons (pv 5) pa_nil)))))) pa_nil)) (pe_callB (call_reprA hf hr.units) (by rfl) B.n_repr (by decide +kernel) (pa_cons (pv 4) pa_nil)) (nomark _))
   (pss_one (ps_ret pe_bl))
   pss_nil)
  (pss_cons (ps_set (i := 6) scl_right.nd rfl (Or.inl rfl) (pe_op op_add pe_int (pe_call Gl_fish (hr.mono (by decide)) (by rfl) Dl_fish.g Dl_fish.F.kp Dl_fish.b .nil pass0 (pa_cons (pv 0) (pa_cons (pe_op op_powW pe_int pe_int) pa_nil)))))
  (pss_cons (ps_set (i := 7) scl_right.nd rfl (Or.inl rfl) (pe_call Gl_scaled (hr.mono (by decide)) (by rfl) Dl_scaled.g Dl_scaled.F.kp Dl_scaled.b .nil pass0 (pa_cons (pv 2) (pa_cons (pv 6) pa_nil))))
  (pss_cons (ps_set (i := 8) scl_right.nd rfl (Or.inl rfl) (pe_lst (pa_cons (pe_call Gis_signal (hr.mono (by decide)) (by rfl) Dis_signal.g Dis_signal.F.kp Dis_signal.b .nil pass0 (pa_cons (pv 7) (pa_cons (pe_op op_mulW (pv 1) (pv 6)) pa_nil))) (pa_cons (pe_call Gis_signal (hr.mono (by decide)) (by rfl) Dis_signal.g Dis_signal.F.kp Dis_signal.b .nil pass0 (pa_cons (pe_op op_catA (pv 7) (pe_tup (pa_cons (pe_tup (pa_cons (pe_op op_mulW (pv 1) (pv 6)) (pa_cons pe_int pa_nil))) pa_nil))) (pa_cons (pe_op op_mulW (pv 1) (pv 6)) pa_nil))) pa_nil))))
  (pss_cons (ps_if (pt_cmpR op_ne (pe_callB (call_reprA hf hr.units) (by rfl) B.n_repr (by decide +kernel) (pa_cons (pe_op op_cat (pv 8) (pe_lst (pa_cons (pe_call Gis_signal (hr.mono (by decide)) (by rfl) Dis_signal.g Dis_signal.F.kp Dis_signal.b .nil pass0 (pa_cons (pv 7) (pa_cons (pe_op op_mulW (pe_op op_mulW (pv 1) (pv 6)) pe_int) pa_nil))) pa_nil))) pa_nil)) (pe_callB (call_reprA hf hr.units) (by rfl) B.n_repr (by decide +kernel) (pa_cons (pe_lst (pa_cons pe_bl (pa_cons pe_bl (pa_cons pe_bl pa_nil)))) pa_nil)) (nomark _))
   (pss_one (ps_ret pe_bl))
   pss_nil)
  (pss_cons (ps_for PassesOwn.never rfl (pi_range1 (by rfl) B.range (pa_cons pe_int pa_nil)) (pg_name (i := 9) scl_right.nd rfl (Or.inl rfl))
   (pss_cons (ps_par (i := 5) (j := 10) rfl scl_right.nd rfl rfl (by decide) rfl rfl (pa_cons (pe_call Gl_fish (hr.mono (by decide)) (by rfl) Dl_fish.g Dl_fish.F.kp Dl_fish.b .nil pass0 (pa_cons (pv 0) (pa_cons (pv 1) pa_nil))) (pa_cons (pe_op op_mulW (pe_op op_sub (pe_call Gl_fish (hr.mono (by decide)) (by rfl) Dl_fish.g Dl_fish.F.kp Dl_fish.b .nil pass0 (pa_cons (pv 0) (pa_cons (pe_op op_powW pe_int pe_int) pa_nil))) (pe_op op_mulW (pe_op op_powW pe_int pe_int) pe_int)) (pv 1)) pa_nil)) (by rfl))
  (pss_cons (ps_if (pt_cmpR op_ne (pe_callB (call_reprA hf hr.units) (by rfl) B.n_repr (by decide +kernel) (pa_cons (pe_call Gis_green (hr.mono (by decide)) (by rfl) Dis_green.g Dis_green.F.kp Dis_green.b .nil pass0 (pa_cons (pv 1) (pa_cons (pv 2) (pa_cons (pe_op op_add (pv 5) (pv 10)) pa_nil)))) pa_nil)) (pe_callB (call_reprA hf hr.units) (by rfl) B.n_repr (by decide +kernel) (pa_cons (pe_cmp (pc_din (hu_of hr) (pv 5) (pv 3)) rfl) pa_nil)) (nomark _))
   (pss_one (ps_ret pe_bl))
   pss_nil)
  (pss_one (ps_for PassesOwn.never rfl (pi_tup (pe_tup (pa_cons pe_int (pa_cons (pe_op op_sub (pv 6) pe_int) (pa_cons (pe_call Gl_fish (hr.mono (by decide)) (by rfl) Dl_fish.g Dl_fish.F.kp Dl_fish.b .nil pass0 (pa_cons (pv 0) (pa_cons (pv 6) pa_nil))) pa_nil))))) (pg_name (i := 11) scl_right.nd rfl (Or.inl rfl))
   (pss_one (ps_if (pt_cmpR op_ne (pe_callB (call_reprA hf hr.units) (by rfl) B.n_repr (by decide +kernel) (pa_cons (pe_call Gis_green (hr.mono (by decide)) (by rfl) Dis_green.g Dis_green.F.kp Dis_green.b .nil pass0 (pa_cons (pe_op op_mulW (pv 1) (pv 6)) (pa_cons (pv 7) (pa_cons (pe_op op_add (pe_op op_mulW (pe_op op_add (pv 5) (pv 10)) (pv 6)) (pv 11)) pa_nil)))) pa_nil)) (pe_callB (call_reprA hf hr.units) (by rfl) B.n_repr (by decide +kernel) (pa_cons (pe_cmp (pc_din (hu_of hr) (pv 5) (pv 3)) rfl) pa_nil)) (nomark _))
   (pss_one (ps_ret pe_bl))
   pss_nil)))))))
  (pss_one (ps_ret pe_bl)))))))))), ?_⟩)
  · obtain ⟨p, g, m, n, gs, rfl, _⟩ := h; rfl
  · obtain ⟨p, g, m, n, gs, rfl, hP, hn, hS, hG, m1, m2, q⟩ := h
    have nz : m ≠ 0 := by omega
    -- the rests
    refine ⟨_, rfl, _, rfl, g, m, gs, rfl, hS, hG, by omega, fun d kvs H1 s1 hd e1 hL => ?_⟩
    have hP1 := hP.same s1
    have hS1 := hS.mono s1
    -- due
    refine ⟨_, rfl, _, _, rfl, rfl, _, _, rfl, rfl, _, rfl, _, _, rfl, rfl, mul30 (by decide) (by decide +kernel) (by omega) (by omega), _, _, rfl, rfl, _, _, rfl, ⟨by omega, by omega, by omega, by omega⟩, fun D hD => ?_⟩
    refine lc_range (lo := 0 - m - 2) (n := (2 * m + 3 - (0 - m - 2)).toNat) (fun i H' => Same H1 H' ∧ H' D = some (.lst ((lits m gs (0 - m - 2) i).map V.bl))) ⟨Same.new hD, upd_same⟩ ?_ ?_
    · rintro i H' hi ⟨s2, e2⟩
      refine ⟨rfl, _, rfl, _, rfl, _, _, rfl, rfl, nz, _, rfl, d, _, rfl, DGet.k (k := .inl _) (s2 _ _ e1), _, e2, ?_, fun b o h => ?_, ?_⟩
      · rw [List.length_map, lits_len]
        exact small1000 (by omega)
      · rw [upd_ne (ne_of_none h hD)]; exact s2 _ _ h
      · rw [upd_same, lits_succ, List.map_append, Int.fmod_eq_emod_of_nonneg _ (by omega), hL.is _ (Int.emod_nonneg _ nz) (Int.emod_lt_of_pos _ (by omega)), lit_mod]
        rfl
    · rintro H2 ⟨s2, e2⟩
      have lenb : (lits m gs (0 - m - 2) (2 * m + 3 - (0 - m - 2)).toNat).length ≤ 10000 := by
        rw [lits_len]; omega
      generalize hbs : lits m gs (0 - m - 2) (2 * m + 3 - (0 - m - 2)).toNat = bs at e2 lenb
      have hP2 := hP1.same s2
      have hS2 := hS1.mono s2
      have e12 := s2 _ _ e1
      -- repr of is_green's
      refine ⟨_, rfl, _, _, rfl, rfl, _, _, rfl, rfl, _, rfl, _, _, rfl, rfl, mul30 (by decide) (by decide +kernel) (by omega) (by omega), _, _, rfl, rfl, _, _, rfl, ⟨by omega, by omega, by omega, by omega⟩, fun D2 hD2 => ?_⟩
      refine lc_range (lo := 0 - m - 2) (n := (2 * m + 3 - (0 - m - 2)).toNat) (fun i H' => Same H2 H' ∧ H' D2 = some (.lst ((lits m gs (0 - m - 2) i).map V.bl))) ⟨Same.new hD2, upd_same⟩ ?_ ?_
      · rintro i H' hi ⟨s3, e3⟩
        refine ⟨rfl, _, rfl, _, rfl, _, rfl, g, m, _, gs, rfl, m1, by omega, hS2.mono s3, hG, fun H4 s4 => ⟨_, s4 _ _ e3, ?_, fun b o h => ?_, ?_⟩⟩
        · rw [List.length_map, lits_len]
          exact small1000 (by omega)
        · rw [upd_ne (ne_of_none h hD2)]; exact s4 _ _ (s3 _ _ h)
        · rw [upd_same, lits_succ, List.map_append]
          rfl
      · rintro H3 ⟨s3, e3⟩
        rw [hbs] at e3
        have sh := bools_show bs
        refine ⟨.ref D2, boolsD bs, rfl, .lst (SqL.of e3) (dp_bools bs), sh.1, sh.2.1, sh.2.2, bools_len bs lenb, (fun _ z => nomatch z), ?_⟩
        refine ⟨_, rfl, .ref D, boolsD bs, rfl, .lst (SqL.of (s3 _ _ e2)) (dp_bools bs), sh.1, sh.2.1, sh.2.2, bools_len bs lenb, (fun _ z => nomatch z), rfl, _, rfl, iteNS rfl ?_⟩
        -- factor
        have hP3 := hP2.same s3
        have hS3 := hS2.mono s3
        have e13 := s3 _ _ e12
        obtain ⟨pu3, hpu3⟩ := hP3.some
        refine ⟨_, rfl, _, _, rfl, rfl, ⟨by decide, by decide +kernel⟩, p, _, n, rfl, hP3, by omega, by decide +kernel, by decide +kernel, fun r4 H4 bt4 pd4 r40 r41 => ⟨_, _, rfl, rfl, ?_⟩⟩
        have r41' : r4 < 10 ^ 28 := r41
        clear r41
        have hS4 := hS3.but bt4 hpu3
        have e14 := bt4 d _ (ne_of e13 hpu3 (fun z => nomatch z)) e13
        have F1 : 1 ≤ (1 + r4) := by omega
        have F2 : (1 + r4) ≤ 10 ^ 28 := by omega
        -- great
        refine ⟨_, rfl, _, rfl, g, (1 + r4), gs, rfl, hS4, by have := hG.2.1; omega, (fun x hx => by have := hG.2.2 x hx; omega), by omega, by omega, fun a H5 s5 hA => ?_⟩
        have hc4 : m * (1 + r4) ≤ 4 * 10 ^ 29 := by
          have : m * (1 + r4) ≤ 40 * (1 + r4) := Int.mul_le_mul_of_nonneg_right m2 (by omega)
          omega
        have hc : m * (1 + r4) ≤ 10 ^ 30 := by omega
        have hc1 : 1 ≤ m * (1 + r4) := by
          have : 1 * (1 + r4) ≤ m * (1 + r4) := Int.mul_le_mul_of_nonneg_right m1 (by omega)
          omega
        have gr := scal2_ok (c := m * (1 + r4)) hG F1 (Int.le_refl _)
        have gr2 := scal2_ok (c := m * (1 + r4) * 2) hG F1 (by omega)
        have sg : ∀ {H' : Hp} (c : Int), OkG c (scal2 (1 + r4) gs) → SigT H' a (scal2 (1 + r4) gs) → SigK H' c (.ref a) true := fun c ok h => by
          have := h.sigK (c := c) ⟨ok.1, ok.2.1⟩
          rwa [ok.all] at this
        refine ⟨_, rfl, _, rfl, _, rfl, _, _, rfl, rfl, mul30 (by omega) (by omega) (by omega) (by omega), .ref a, _, true, rfl, hc1, hc, sg _ gr hA, fun H6 s6 => ?_⟩
        have hA6 := hA.mono s6
        refine ⟨_, rfl, _, rfl, _, rfl, _, _, rfl, rfl, mul30 (by omega) (by omega) (by omega) (by omega), (by show 2 ≤ sizeLine; decide), fun T hT => ⟨(by show 1 ≤ sizeLine; decide), fun U hU => ?_⟩⟩
        obtain ⟨xs, hx, hxP⟩ := (hA6.mono (Same.new hT)).mono (Same.new hU (o := .tup [.ref T]))
        have lx := paired_len hxP
        have lg := gr.1
        have lg2 := gr.2.1
        refine ⟨a, U, xs, [.ref T], rfl, rfl, SqT.of hx, SqT.of upd_same, ?_, (fun e => ?_), (fun _ e => nomatch e), fun _ _ W hW => ?_⟩
        · exact Nat.le_of_lt (small1000 (by simp; omega))
        · rw [e] at lx; simp at lx; omega
        refine ⟨_, rfl, _, rfl, _, _, rfl, rfl, mul30 (by omega) (by omega) (by omega) (by omega), .ref W, _, false, rfl, hc1, hc, ?_, fun H7 s7 => ?_⟩
        · refine sigK_more (a := a) (T := T) (o := m * (1 + r4)) (l := 1) (grs_same (Same.new hW) hxP) upd_same (Same.new hW _ _ (Same.new hU _ _ upd_same)) ?_
          simp [pairB]
        refine ⟨(by show 2 ≤ sizeLine; decide), fun T2 hT2 => ?_⟩
        have s67 : Same H6 (upd H7 T2 (.lst [.bl true, .bl false])) := ((((Same.new hT).trans (Same.new hU)).trans (Same.new hW)).trans s7).trans (Same.new hT2)
        have hA7 := hA6.mono s67
        -- the second look
        refine ⟨_, rfl, _, rfl, _, rfl, _, rfl, _, _, rfl, rfl, mul30 (by omega) (by omega) (by omega) (by omega), _, _, rfl, rfl, mul30 (by omega) (by omega) (by decide) (by decide +kernel), .ref a, _, true, rfl, by omega, by omega, sg _ gr2 hA7, fun H8 s8 => ?_⟩
        refine ⟨(by show 1 ≤ sizeLine; decide), fun T3 hT3 => ⟨T2, T3, _, _, rfl, rfl, Same.new hT3 _ _ (s8 _ _ upd_same), upd_same, (by show 3 ≤ sizeLine; decide), fun T4 hT4 => ?_⟩⟩
        have sh3 := bools_show [true, false, true]
        refine ⟨.ref T4, boolsD [true, false, true], rfl, .lst (SqL.of upd_same) (dp_bools [true, false, true]), sh3.1, sh3.2.1, sh3.2.2, bools_len _ (by decide), (fun _ z => nomatch z), (by show 3 ≤ sizeLine; decide), fun T5 hT5 => ?_⟩
        refine ⟨.ref T5, boolsD [true, false, true], rfl, .lst (SqL.of upd_same) (dp_bools [true, false, true]), sh3.1, sh3.2.1, sh3.2.2, bools_len _ (by decide), (fun _ z => nomatch z), rfl, _, rfl, iteNS rfl ?_⟩
        -- six turns
        have s4X : Same H4 (upd (upd (upd H8 T3 (.lst [.bl true])) T4 (.lst ([.bl true, .bl false] ++ [.bl true]))) T5 (.lst [.bl true, .bl false, .bl true])) :=
          (((((s5.trans s6).trans s67).trans s8).trans (Same.new hT3)).trans (Same.new hT4)).trans (Same.new hT5)
        have s5X : Same H5 (upd (upd (upd H8 T3 (.lst [.bl true])) T4 (.lst ([.bl true, .bl false] ++ [.bl true]))) T5 (.lst [.bl true, .bl false, .bl true])) :=
          ((((s6.trans s67).trans s8).trans (Same.new hT3)).trans (Same.new hT4)).trans (Same.new hT5)
        have bX : But p H (upd (upd (upd H8 T3 (.lst [.bl true])) T4 (.lst ([.bl true, .bl false] ++ [.bl true]))) T5 (.lst [.bl true, .bl false, .bl true])) := ((Same.but ((s1.trans s2).trans s3)).trans bt4).trans (Same.but s4X)
        generalize hX : (upd (upd (upd H8 T3 (.lst [.bl true])) T4 (.lst ([.bl true, .bl false] ++ [.bl true]))) T5 (.lst [.bl true, .bl false, .bl true])) = HX at s4X s5X bX
        have eX := s4X _ _ e14
        have hSX := hS4.mono s4X
        have hAX := hA.mono s5X
        have pX := pd4.same s4X
        obtain ⟨puX, hpuX⟩ := pX.some
        refine ⟨6, rfl, by decide, by decide, ?_⟩
        refine for_range (lo := 0) (fun i σ H' => ∃ y5 y9 y10 y11, σ = [some (.ref p), some (.int m), some (.ref g), some (.ref d), some (.ref D), y5, some (.int (1 + r4)), some (.ref a), some (.ref T2), y9, y10, y11] ∧ But p HX H' ∧ Pond (n + 12 + 100 * i) p H')
          ⟨none, none, none, none, rfl, But.refl p HX, pX.mono (by omega)⟩ ?_ ?_
        · rintro i σ HI hi ⟨y5, y9, y10, y11, rfl, btI, pdI⟩
          refine ⟨_, rfl, _, rfl, p, m, _, rfl, pdI, by omega, m1, by omega, fun t HJ btJ pdJ t0 t1 => ?_⟩
          refine ⟨_, rfl, _, _, rfl, rfl, ⟨by decide, by decide +kernel⟩, p, _, _, rfl, pdJ, by omega, by decide +kernel, by decide +kernel, fun u HK btK pdK u0 u1 => ?_⟩
          have u1' : u < 10 ^ 60 := u1
          clear u1
          have e59 : (10 : Int) ^ (59 : Int).toNat = 10 ^ 59 := by decide +kernel
          have farA : (u - 10 ^ (59 : Int).toNat * 5).natAbs < 2 ^ 210 := by
            have e : (10 : Int) ^ 60 + 10 ^ 59 * 5 < ((2 ^ 210 : Nat) : Int) := by decide +kernel
            rw [e59]
            omega
          have mA : m.natAbs < 2 ^ 10 := by omega
          have far : ((u - 10 ^ (59 : Int).toNat * 5) * m).natAbs < 2 ^ (210 + 10) := wide_lt farA mA
          refine ⟨_, _, rfl, rfl, ⟨by decide, by decide +kernel⟩, _, _, rfl, rfl, mulBig (by decide +kernel) (by decide +kernel), _, _, rfl, rfl, _, rfl, _, _, rfl, rfl, wide_mul (a := 210) (b := 10) farA mA (by decide) (by decide) (by decide), _, _, rfl, ?_⟩
          have btIK := (btI.trans btJ).trans btK
          have eK := btIK d _ (ne_of eX hpuX (fun z => nomatch z)) eX
          have hSK := hSX.but btIK hpuX
          have hAK := hAX.but btIK hpuX
          have ll : (valV kvs (.inl t)).isSome = lit m gs t := hL.is t t0 t1
          have bf := bool_fits (lit m gs t)
          refine ⟨_, rfl, _, rfl, _, rfl, _, rfl, _, _, rfl, rfl, g, m, _, gs, rfl, m1, by omega, hSK, hG, fun HM sM => ?_⟩
          rw [lit_far]
          refine ⟨.bl _, .bool _, rfl, .bl _, bf.1, bf.2.1, bf.2.2.1, bf.2.2.2, (fun _ z => nomatch z), _, rfl, _, rfl, d, _, rfl, DGet.k (k := .inl _) (sM _ _ eK), ?_⟩
          rw [ll]
          refine ⟨.bl _, .bool _, rfl, .bl _, bf.1, bf.2.1, bf.2.2.1, bf.2.2.2, (fun _ z => nomatch z), rfl, _, rfl, iteNS rfl ?_⟩
          -- three rests
          refine ⟨_, rfl, _, _, rfl, rfl, _, rfl, _, rfl, p, _, _, rfl, pdK.same sM, by omega, by omega, by omega, fun v HN btN pdN v0 v1 => ⟨(by show 3 ≤ sizeLine; decide), fun U hU => ⟨U, rfl, ⟨_, SqT.of upd_same⟩, ?_⟩⟩⟩
          obtain ⟨puM, hpuM⟩ := (pdK.same sM).some
          have eN := Same.new hU (o := .tup [.int 0, .int (1 + r4 - 1), .int v]) _ _ (btN d _ (ne_of (sM _ _ eK) hpuM (fun z => nomatch z)) (sM _ _ eK))
          have hAN := ((hAK.mono sM).but btN hpuM).mono (Same.new hU (o := .tup [.int 0, .int (1 + r4 - 1), .int v]))
          have btXN : But p HX (upd HN U (.tup [.int 0, .int (1 + r4 - 1), .int v])) := ((btIK.trans (Same.but sM)).trans btN).trans (Same.but (Same.new hU))
          have pdXN := pdN.same (Same.new hU (o := .tup [.int 0, .int (1 + r4 - 1), .int v]))
          refine for_tup (xs := [.int 0, .int (1 + r4 - 1), .int v]) (fun i' σ H' => ∃ y11, σ = [some (.ref p), some (.int m), some (.ref g), some (.ref d), some (.ref D), some (.int t), some (.int (1 + r4)), some (.ref a), some (.ref T2), some (.int (0 + (i : Int))), some (.int ((u - 10 ^ (59 : Int).toNat * 5) * m)), y11] ∧
              Same (upd HN U (.tup [.int 0, .int (1 + r4 - 1), .int v])) H') ⟨y11, rfl, Same.refl _⟩ (fun _ _ _ _ ⟨_, _, s⟩ => SqT.of (s _ _ upd_same)) ?_ ?_
          · rintro i' x σ HO hx ⟨y, rfl, sO⟩
            obtain ⟨z, rfl, z0, z1⟩ : ∃ z : Int, x = .int z ∧ 0 ≤ z ∧ z < 1 + r4 := by
              have := List.mem_of_getElem? hx
              simp only [List.mem_cons, List.not_mem_nil, or_false] at this
              rcases this with e | e | e
              · exact ⟨0, e, by omega, by omega⟩
              · exact ⟨_, e, by omega, by omega⟩
              · exact ⟨v, e, v0, v1⟩
            have tf : (t + (u - 10 ^ (59 : Int).toNat * 5) * m).natAbs < 2 ^ 1000 := by
              have : (2 : Nat) ^ (210 + 10) + 40 < 2 ^ 1000 := by decide +kernel
              omega
            have fb : (1 + r4).natAbs < 2 ^ 1000 := natAbs_lt (by omega) (by have := e100; omega)
            refine ⟨_, rfl, _, rfl, _, _, rfl, rfl, mul30 (by omega) (by omega) (by omega) (by omega), _, rfl, _, rfl, _, rfl, _, _, rfl, rfl, _, rfl, _, _, rfl, rfl, mulBig tf fb, _, rfl, _, _, rfl, rfl, a, m * (1 + r4), _, scal2 (1 + r4) gs, rfl, hc1, hc, hAN.mono sO, gr, fun HQ sQ => ?_⟩
            rw [lit_scal gs _ z (by omega) (by omega) z0 z1, lit_far]
            refine ⟨.bl _, .bool _, rfl, .bl _, bf.1, bf.2.1, bf.2.2.1, bf.2.2.2, (fun _ z => nomatch z), _, rfl, _, rfl, d, _, rfl, DGet.k (k := .inl _) (sQ _ _ (sO _ _ eN)), ?_⟩
            rw [ll]
            exact ⟨.bl _, .bool _, rfl, .bl _, bf.1, bf.2.1, bf.2.2.1, bf.2.2.2, (fun _ z => nomatch z), rfl, _, rfl, iteNS rfl ⟨_, rfl, sO.trans sQ⟩⟩
          · rintro σ HO ⟨y, rfl, sO⟩
            exact ⟨_, _, _, _, rfl, btXN.trans (Same.but sO), (pdXN.same sO).mono (by push_cast; omega)⟩
        · rintro σ HI ⟨y5, y9, y10, y11, rfl, btI, pdI⟩
          exact q _ (bX.trans btI) (pdI.mono (by omega))
end
end Gr

set_option Elab.async false
set_option linter.all false
set_option pp.deepTerms false
set_option pp.maxSteps 3000
set_option maxRecDepth 100000
set_option maxHeartbeats 8000000
set_option exponentiation.threshold 3000
namespace Gr
open PySem PySem.Spec PyProof.Rows L2
theorem But.same {p : Addr} {H H1 H2 : Hp} (b : But p H1 H2) (s : Same H H1) (hp : H p = none) : Same H H2 := fun q o e => b q o (ne_of_none e hp) (s q o e)
/-- items that are greens, one by one -/
theorem pairs_of {H : Hp} {c : Int} : ∀ {zs : List V} {gs : List (Int × Int)}, Paired (GrAt H) zs gs → Paired (PairK H c) zs (gs.map fun g => pairB c g.1 g.2)
  | _, _, .nil => .nil
  | _, _, .cons ⟨b, e, h⟩ t => .cons (.inl ⟨b, _, _, e, h, rfl⟩) (pairs_of t)
theorem pairs_true {c s : Int} {gs : List (Int × Int)} (h : ∀ g ∈ gs, 0 ≤ g.1 ∧ g.1 < s ∧ 1 ≤ g.2 ∧ g.2 ≤ s) (hc : s ≤ c) : (gs.map fun g => pairB c g.1 g.2).all id = true := by
  rw [List.all_map, List.all_eq_true]
  intro g hg
  have := h g hg
  simp [pairB]
  omega
theorem paired_take {α β : Type} {R : α → β → Prop} : ∀ {xs : List α} {ys : List β} (n : Nat), Paired R xs ys → Paired R (xs.take n) (ys.take n)
  | _, _, 0, _ => .nil
  | _, _, _ + 1, .nil => .nil
  | _, _, n + 1, .cons r t => .cons r (paired_take n t)
theorem paired_app {α β : Type} {R : α → β → Prop} : ∀ {xs us : List α} {ys vs : List β}, Paired R xs ys → Paired R us vs → Paired R (xs ++ us) (ys ++ vs)
  | _, _, _, _, .nil, h => h
  | _, _, _, _, .cons r t, h => .cons r (paired_app t h)
theorem paired_rep {α β : Type} {R : α → β → Prop} {xs : List α} {ys : List β} (h : Paired R xs ys) : ∀ n : Nat, Paired R (List.replicate n xs).flatten (List.replicate n ys).flatten
  | 0 => .nil
  | n + 1 => by
    rw [List.replicate_succ, List.replicate_succ, List.flatten_cons, List.flatten_cons]
    exact paired_app h (paired_rep h n)
theorem paired_rev {α β : Type} {R : α → β → Prop} : ∀ {xs : List α} {ys : List β}, Paired R xs ys → Paired R xs.reverse ys.reverse
  | _, _, .nil => .nil
  | _, _, .cons r t => by
    rw [List.reverse_cons, List.reverse_cons]
    exact paired_snoc (paired_rev t) r
theorem OkG.rev {c : Int} {gs : List (Int × Int)} (h : OkG c gs) : OkG c gs.reverse := ⟨by rw [List.length_reverse]; exact h.1, by rw [List.length_reverse]; exact h.2.1, fun g hg => h.2.2 g (List.mem_reverse.mp hg)⟩
/-- greens, then one pair more -/
theorem sig_snoc {H : Hp} {c s : Int} {W T : Addr} {zs : List V} {gs : List (Int × Int)} {o l : Int} (hW : H W = some (.tup (zs ++ [.ref T]))) (hz : Paired (GrAt H) zs gs) (h : ∀ g ∈ gs, 0 ≤ g.1 ∧ g.1 < s ∧ 1 ≤ g.2 ∧ g.2 ≤ s) (hc : s ≤ c) (hl : zs.length ≤ 5)
    (hT : H T = some (.tup [.int o, .int l])) : SigK H c (.ref W) (pairB c o l) := by
  refine .inr (.inr ⟨W, _, (gs.map fun g => pairB c g.1 g.2) ++ [pairB c o l], rfl, hW, by simp, by simpa using hl, paired_snoc (pairs_of hz) (.inl ⟨T, o, l, rfl, hT, rfl⟩), ?_⟩)
  rw [List.all_append, pairs_true h hc]
  simp
theorem slA_to {K : PySem.W.Frag} {H : Hp} {a : Addr} {zs : List V} {k : Nat} {Q : VK} (hT : H a = some (.tup zs)) (q : ∀ R H', Same H H' → H' R = some (.tup (zs.take k)) → Q (.ref R) H') : rSlA K (.ref a) none (some (k : Int)) H Q := by
  have e1 := HT.sIx_nat zs.length zs.length k
  refine ⟨a, zs, rfl, SqT.of hT, fun h => ?_, fun h p hp => ?_⟩
  · refine q a H (Same.refl H) ?_
    rw [e1] at h
    rw [List.take_of_length_le (by omega)]
    exact hT
  · refine q p _ (Same.new hp) ?_
    rw [upd_same]
    unfold cutV
    rw [e1, HT.sIx_none]
    have : zs.take (min k zs.length) = zs.take k := by
      by_cases hk : k ≤ zs.length
      · rw [Nat.min_eq_left hk]
      · rw [Nat.min_eq_right (by omega), List.take_of_length_le (Nat.le_refl _), List.take_of_length_le (by omega)]
    simp [this]
theorem slA_but {K : PySem.W.Frag} {H : Hp} {a : Addr} {zs : List V} {Q : VK} (hT : H a = some (.tup zs)) (hz : 1 ≤ zs.length) (q : ∀ R H', Same H H' → H' R = some (.tup (zs.take (zs.length - 1))) → Q (.ref R) H') : rSlA K (.ref a) none (some (-1)) H Q := by
  have e1 : HT.sIx zs.length zs.length (some (-1)) = zs.length - 1 := by
    show (if (-1 : Int) < 0 then ((-1 : Int) + (zs.length : Int)).toNat else min (-1 : Int).toNat zs.length) = zs.length - 1
    rw [if_pos (by decide)]
    omega
  refine ⟨a, zs, rfl, SqT.of hT, fun h => ?_, fun h p hp => ?_⟩
  · rw [e1] at h
    exact absurd h.2 (by omega)
  · refine q p _ (Same.new hp) ?_
    rw [upd_same]
    unfold cutV
    rw [e1, HT.sIx_none]
    simp
theorem catA_to {K : PySem.W.Frag} {H : Hp} {a b : Addr} {xs : List V} {u : V} {Q : VK} (hT : H a = some (.tup xs)) (hU : H b = some (.tup [u])) (hl : xs.length ≤ 999) (q : ∀ W H', Same H H' → H' W = some (.tup (xs ++ [u])) → Q (.ref W) H') : rCatA K (.ref a) (.ref b) H Q := by
  refine ⟨a, b, xs, [u], rfl, rfl, SqT.of hT, SqT.of hU, Nat.le_of_lt (small1000 (by simp; omega)), (fun e => ?_), (fun _ e => nomatch e), fun _ _ W hW => ?_⟩
  · refine q b H (Same.refl H) ?_
    rw [hU, e]
    rfl
  · exact q W _ (Same.new hW) upd_same
def spLaw (K : PySem.W.Frag) : Sp := fun vs H Q _ => ∃ (a : Addr) (ns : List Int), vs = [.ref a] ∧ SqL K H a (ns.map V.int) ∧ ns.length ≤ 63 ∧ ∀ H', Q (.bl true) H'
section
variable {P : Program} {w : World} {K : PySem.W.Frag} {mg : Str → Option Value} {base : Heap} {tC tG : Tok}
theorem ok_law {f f1 f2 f3 f4 f5 f6 : Addr} {fd fd1 fd2 fd3 fd4 fd5 fd6 : FuncData} (B : Blt mg tC tG) (Dlaw : Def K mg "law" s_law ["_law_script"] f fd) (Dl_fish : Def K mg "_law_fish" s_l_fish ["_law_pond_here", "_law_bound"] f1 fd1) (Dl_pond : Def K mg "_law_pond" s_l_pond ["_law_script", "_law_k"] f2 fd2) (Dl_greens : Def K mg "_law_greens" s_l_greens ["_law_pond_here", "_law_span"] f3 fd3) (Dis_green : Def K mg "is_green" s_is_green ["cycle", "signal", "moment"] f4 fd4) (Dis_signal : Def K mg "is_signal" s_is_signal ["value", "cycle"] f5 fd5) (Dl_right : Def K mg "_law_right" s_l_right ["_law_pond_here", "_law_span", "_law_greens_here"] f6 fd6)
    (Gis_green : FnOk P w K mg base CX0 5 f4 fd4 ["cycle", "signal", "moment"] spGreen) (Gis_signal : FnOk P w K mg base CX0 3 f5 fd5 ["value", "cycle"] spSignal) (Gl_right : FnG P w K mg base CX0 6 f6 fd6 ["_law_pond_here", "_law_span", "_law_greens_here"] spRight) : FnG P w K mg base CX0 7 f fd ["_law_script"] (spLaw K) := by
  have Gl_fish := ok_fish (P := P) (w := w) (base := base) B Dl_fish
  have Gl_pond := ok_pond (P := P) (w := w) (base := base) B Dl_pond
  have Gl_greens := ok_greens (P := P) (w := w) (base := base) B Dl_greens Dl_fish
  refine okG Dlaw.F sclaw (fun vs H Q E h => ?_) (fun cdv A outer s H vs Q E hf hr h => ⟨_, (pss_cons (ps_for PassesOwn.never rfl (pi_range1 (by rfl) B.range (pa_cons (pe_callB (call_max2 rfl) (by rfl) B.n_max (by decide +kernel) (pa_cons pe_int (pa_cons (pe_callB (call_min2 rfl) (by rfl) B.n_min (by decide +kernel) (pa_cons pe_int (pa_cons (pe_callB call_len_seq (by rfl) B.len PySem.boot_len (pa_cons (pv 0) pa_nil)) pa_nil))) pa_nil))) pa_nil)) (pg_name (i := 1) sclaw.nd rfl (Or.inl rfl))
   (pss_cons (ps_set (i := 2) sclaw.nd rfl (Or.inl rfl) (pe_call Gl_pond (hr.mono (by decide)) (by rfl) Dl_pond.g Dl_pond.F.kp Dl_pond.b .nil pass0 (pa_cons (pv 0) (pa_cons (pv 1) pa_nil))))
  (pss_one (ps_for PassesOwn.never rfl (pi_range1 (by rfl) B.range (pa_cons pe_int pa_nil)) (pg_name (i := 3) sclaw.nd rfl (Or.inl rfl))
   (pss_cons (ps_set (i := 4) sclaw.nd rfl (Or.inl rfl) (pe_ix ix_list (pe_lst (pa_cons (pe_op op_add pe_int (pe_call Gl_fish (hr.mono (by decide)) (by rfl) Dl_fish.g Dl_fish.F.kp Dl_fish.b .nil pass0 (pa_cons (pv 2) (pa_cons pe_int pa_nil)))) (pa_cons pe_int (pa_cons pe_int (pa_cons pe_int pa_nil))))) (pe_call Gl_fish (hr.mono (by decide)) (by rfl) Dl_fish.g Dl_fish.F.kp Dl_fish.b .nil pass0 (pa_cons (pv 2) (pa_cons pe_int pa_nil))) (fun _ _ => rfl)))
  (pss_cons (ps_set (i := 5) sclaw.nd rfl (Or.inl rfl) (pe_call Gl_greens (hr.mono (by decide)) (by rfl) Dl_greens.g Dl_greens.F.kp Dl_greens.b .nil pass0 (pa_cons (pv 2) (pa_cons (pv 4) pa_nil))))
  (pss_cons (ps_if (PW.pt (pw_or (pt_not (pt_val (pe_callG Gl_right hf (hr.mono (by decide)) (by rfl) Dl_right.g Dl_right.F.kp Dl_right.b .nil pass0 (pa_cons (pv 2) (pa_cons (pv 4) (pa_cons (pv 5) pa_nil)))))) (pw_or1 (pt_not (pt_val (pe_callG Gl_right hf (hr.mono (by decide)) (by rfl) Dl_right.g Dl_right.F.kp Dl_right.b .nil pass0 (pa_cons (pv 2) (pa_cons (pv 4) (pa_cons (pe_revT (pv 5)) pa_nil)))))))))
   (pss_one (ps_ret pe_bl))
   pss_nil)
  (pss_cons (ps_set (i := 6) sclaw.nd rfl (Or.inl rfl) (pe_lst (pa_cons (pe_call Gis_signal (hr.mono (by decide)) (by rfl) Dis_signal.g Dis_signal.F.kp Dis_signal.b .nil pass0 (pa_cons (pv 5) (pa_cons (pv 4) pa_nil))) (pa_cons (pe_call Gis_signal (hr.mono (by decide)) (by rfl) Dis_signal.g Dis_signal.F.kp Dis_signal.b .nil pass0 (pa_cons (pe_slice sl_tupA (pe_op op_repT (pv 5) pe_int) po_none (po_some pe_int)) (pa_cons (pv 4) pa_nil))) (pa_cons (pe_call Gis_signal (hr.mono (by decide)) (by rfl) Dis_signal.g Dis_signal.F.kp Dis_signal.b .nil pass0 (pa_cons (pe_callTy call_list_of (by rfl) B.n_list (by decide +kernel) (pa_cons (pv 5) pa_nil)) (pa_cons (pv 4) pa_nil))) pa_nil)))))
  (pss_cons (ps_set (i := 6) sclaw.nd rfl (Or.inl rfl) (pe_op op_cat (pv 6) (pe_lst (pa_cons (pe_call Gis_signal (hr.mono (by decide)) (by rfl) Dis_signal.g Dis_signal.F.kp Dis_signal.b .nil pass0 (pa_cons (pe_slice sl_tupA (pe_op op_repT (pv 5) pe_int) po_none (po_some pe_int)) (pa_cons (pv 4) pa_nil))) (pa_cons (pe_call Gis_signal (hr.mono (by decide)) (by rfl) Dis_signal.g Dis_signal.F.kp Dis_signal.b .nil pass0 (pa_cons (pe_callTy call_tuple_of (by rfl) B.n_tuple (by decide +kernel) (pa_cons (pe_lc (own := [("_law_one", 7)]) (g := (gName 7)) (tt := tYes) rfl sclaw.nd (pi_tup (pv 5)) (blkOk_by (N := ["_law_script", "_law_k", "_law_pond_here", "_law_turn", "_law_span", "_law_greens_here", "_law_told", "_law_one", "_law_other", "_law_some", "_law_deep"]) (sc := defScope s_law) (by decide +kernel)) (fun _ _ _ _ _ => (pg_name (i := 7) sclaw.nd rfl (Or.inl rfl))) (fun _ _ _ _ _ => pts_nil) (fun _ _ _ _ _ => (pe_callTy (r := Evl.rListS K) (by exact call_list_of) (by rfl) B.n_list (by decide +kernel) (pa_cons (pv 7) pa_nil)))) pa_nil)) (pa_cons (pv 4) pa_nil))) pa_nil)))))
  (pss_cons (ps_if (pt_cmpR op_ne (pe_callB (call_reprA hf hr.units) (by rfl) B.n_repr (by decide +kernel) (pa_cons (pv 6) pa_nil)) (pe_callB (call_reprA hf hr.units) (by rfl) B.n_repr (by decide +kernel) (pa_cons (pe_lst (pa_cons pe_bl (pa_cons pe_bl (pa_cons pe_bl (pa_cons pe_bl (pa_cons pe_bl pa_nil)))))) pa_nil)) (nomark _))
   (pss_one (ps_ret pe_bl))
   pss_nil)
  (pss_cons (ps_set (i := 8) sclaw.nd rfl (Or.inl rfl) (pe_op op_catA (pe_slice sl_tupA (pv 5) po_none (po_some (pe_un un_neg pe_int))) (pe_tup (pa_cons (pe_tup (pa_cons (pv 4) (pa_cons pe_int pa_nil))) pa_nil))))
  (pss_cons (ps_set (i := 9) sclaw.nd rfl (Or.inl rfl) (pe_lst (pa_cons (pe_call Gis_signal (hr.mono (by decide)) (by rfl) Dis_signal.g Dis_signal.F.kp Dis_signal.b .nil pass0 (pa_cons (pv 8) (pa_cons (pe_op op_add (pv 4) pe_int) pa_nil))) (pa_cons (pe_call Gis_signal (hr.mono (by decide)) (by rfl) Dis_signal.g Dis_signal.F.kp Dis_signal.b .nil pass0 (pa_cons (pv 8) (pa_cons (pv 4) pa_nil))) (pa_cons (pe_call Gis_signal (hr.mono (by decide)) (by rfl) Dis_signal.g Dis_signal.F.kp Dis_signal.b .nil pass0 (pa_cons (pe_op op_catA (pe_slice sl_tupA (pv 5) po_none (po_some (pe_un un_neg pe_int))) (pe_tup (pa_cons (pe_tup (pa_cons pe_int (pa_cons (pe_op op_add (pv 4) pe_int) pa_nil))) pa_nil))) (pa_cons (pv 4) pa_nil))) pa_nil)))))
  (pss_one (ps_if (pt_cmpR op_ne (pe_callB (call_reprA hf hr.units) (by rfl) B.n_repr (by decide +kernel) (pa_cons (pv 9) pa_nil)) (pe_callB (call_reprA hf hr.units) (by rfl) B.n_repr (by decide +kernel) (pa_cons (pe_lst (pa_cons pe_bl (pa_cons pe_bl (pa_cons pe_bl pa_nil)))) pa_nil)) (nomark _))
   (pss_one (ps_ret pe_bl))
   pss_nil))))))))))))))
  (pss_cons (ps_set (i := 10) sclaw.nd rfl (Or.inl rfl) (pe_tup (pa_cons pe_int (pa_cons pe_int pa_nil))))
  (pss_cons (ps_for PassesOwn.never rfl (pi_range1 (by rfl) B.range (pa_cons pe_int pa_nil)) (pg_name (i := 3) sclaw.nd rfl (Or.inl rfl))
   (pss_cons (ps_set (i := 10) sclaw.nd rfl (Or.inl rfl) (pe_tup (pa_cons (pv 10) pa_nil)))
  (pss_cons (ps_set (i := 6) sclaw.nd rfl (Or.inl rfl) (pe_lst (pa_cons (pe_call Gis_signal (hr.mono (by decide)) (by rfl) Dis_signal.g Dis_signal.F.kp Dis_signal.b .nil pass0 (pa_cons (pv 10) (pa_cons pe_int pa_nil))) (pa_cons (pe_call Gis_signal (hr.mono (by decide)) (by rfl) Dis_signal.g Dis_signal.F.kp Dis_signal.b .nil pass0 (pa_cons (pe_tup (pa_cons (pe_tup (pa_cons pe_int (pa_cons pe_int pa_nil))) (pa_cons (pv 10) pa_nil))) (pa_cons pe_int pa_nil))) (pa_cons (pe_call Gis_signal (hr.mono (by decide)) (by rfl) Dis_signal.g Dis_signal.F.kp Dis_signal.b .nil pass0 (pa_cons (pe_lst (pa_cons (pv 10) pa_nil)) (pa_cons pe_int pa_nil))) pa_nil)))))
  (pss_one (ps_if (pt_cmpR op_ne (pe_callB (call_reprA hf hr.units) (by rfl) B.n_repr (by decide +kernel) (pa_cons (pv 6) pa_nil)) (pe_callB (call_reprA hf hr.units) (by rfl) B.n_repr (by decide +kernel) (pa_cons (pe_lst (pa_cons (pe_cmpR op_eq (pv 3) pe_int (nomark _)) (pa_cons pe_bl (pa_cons pe_bl pa_nil)))) pa_nil)) (nomark _))
   (pss_one (ps_ret pe_bl))
   pss_nil)))))
  (pss_one (ps_ret (pe_and (pe_call Gis_green (hr.mono (by decide)) (by rfl) Dis_green.g Dis_green.F.kp Dis_green.b .nil pass0 (pa_cons pe_int (pa_cons (pe_tup (pa_cons (pe_tup (pa_cons pe_int (pa_cons pe_int pa_nil))) pa_nil)) (pa_cons (pe_un un_neg pe_int) pa_nil)))) (pe_one (pe_not (pe_call Gis_green (hr.mono (by decide)) (by rfl) Dis_green.g Dis_green.F.kp Dis_green.b .nil pass0 (pa_cons pe_int (pa_cons (pe_tup (pa_cons (pe_tup (pa_cons pe_int (pa_cons pe_int pa_nil))) pa_nil)) (pa_cons pe_int pa_nil)))))))))))), ?_⟩)
  · obtain ⟨a, ns, rfl, _⟩ := h; rfl
  · obtain ⟨a, ns, rfl, hS, hl, q⟩ := h
    refine ⟨_, rfl, a, _, rfl, .inl hS, _, _, rfl, _, _, rfl, _, rfl, ?_, ?_, ?_⟩
    · rw [List.length_map]; split <;> split <;> omega
    · rw [List.length_map]; split <;> split <;> omega
    refine for_range (lo := 0) (fun i σ H' => ∃ y1 y2 y3 y4 y5 y6 y7 y8 y9, σ = [some (.ref a), y1, y2, y3, y4, y5, y6, y7, y8, y9, none] ∧ Same H H') ⟨_, _, _, _, _, _, _, _, _, rfl, Same.refl H⟩ ?_ ?_
    · rintro k σ H0 hk ⟨y1, y2, y3, y4, y5, y6, y7, y8, y9, rfl, s0⟩
      have k6 : k ≤ 6 := by
        rw [List.length_map] at hk
        split at hk <;> split at hk <;> omega
      refine ⟨_, rfl, _, rfl, a, _, ns, rfl, s0.seq hS, by omega, by omega, fun p H1 hp0 s1 pd1 => ?_⟩
      refine ⟨3, rfl, by decide, by decide, ?_⟩
      refine for_range (lo := 0) (fun i σ H' => ∃ y3 y4 y5 y6 y7 y8 y9, σ = [some (.ref a), some (.int (0 + (k : Int))), some (.ref p), y3, y4, y5, y6, y7, y8, y9, none] ∧ But p H1 H' ∧ Pond (5000 * i) p H') ⟨_, _, _, _, _, _, _, rfl, But.refl p H1, pd1.mono (by omega)⟩ ?_ ?_
      · rintro i σ H2 hi ⟨y3, y4, y5, y6, y7, y8, y9, rfl, b2, pd2⟩
        have c10 : (10 : Int) ^ 30 ≤ 10 ^ 100 := by decide +kernel
        -- span
        refine ⟨_, rfl, p, 40, _, rfl, pd2, by omega, by decide, by decide +kernel, fun r3 H3 b3 pd3 r30 r31 => ⟨_, _, rfl, rfl, (by show 4 ≤ sizeLine; decide), fun L hL => ?_⟩⟩
        have hLp : L ≠ p := fun e => pd3.ne (e ▸ hL)
        refine ⟨_, rfl, p, 4, _, rfl, pd3.new hL, by omega, by decide, by decide +kernel, fun r4 H4 b4 pd4 r40 r41 => ?_⟩
        obtain ⟨v, hv, hva⟩ := pick (xs := [1 + r3, 10, 2, 1]) r40 r41
        have v40 : 1 ≤ v ∧ v ≤ 40 := by
          simp only [List.mem_cons, List.not_mem_nil, or_false] at hv
          omega
        refine ⟨L, _, _, _, rfl, rfl, SqL.of (b4 L _ hLp upd_same), hva, ?_⟩
        -- greens
        refine ⟨_, rfl, _, rfl, p, v, _, rfl, pd4, by omega, v40.1, by omega, fun g gs H5 b5 pd5 hSg hG => ?_⟩
        obtain ⟨pu5, hpu5⟩ := pd5.some
        have g1 := hG.1
        have g2 := hG.2.1
        refine ⟨_, rfl, _, rfl, _, rfl, p, g, v, _, gs, rfl, pd5, by omega, hSg, hG, v40.1, v40.2, fun H6 b6 pd6 => ⟨_, rfl, ?_⟩⟩
        have hS6 := hSg.but b6 hpu5
        obtain ⟨xs, hx, hxP⟩ := id hS6
        have lx := paired_len hxP
        obtain ⟨pu6, hpu6⟩ := pd6.some
        refine ⟨_, rfl, _, rfl, _, rfl, g, xs, rfl, SqT.of hx, fun R hR => ?_⟩
        refine ⟨p, R, v, _, gs.reverse, rfl, pd6.new hR, by omega, ⟨xs.reverse, upd_same, paired_rev (grs_same (Same.new hR) hxP)⟩, hG.rev, v40.1, v40.2, fun H7 b7 pd7 => ⟨_, rfl, ?_⟩⟩
        have b67 : But p H6 H7 := (Same.but (Same.new hR)).trans b7
        have hS7 := hS6.but b67 hpu6
        have bb : But p H1 H7 := ((((b2.trans b3).trans (Same.but (Same.new hL))).trans b4).trans b5).trans (b6.trans b67)
        clear hx hxP lx
        obtain ⟨xs, hx, hxP⟩ := id hS7
        have lx := paired_len hxP
        have isT : ∀ {H' : Hp}, Same H7 H' → SigK H' v (.ref g) true := fun s => by
          have := (hS7.mono s).sigK (c := v) ⟨hG.1, hG.2.1⟩
          rwa [hG.all] at this
        -- told
        refine ⟨_, rfl, _, rfl, .ref g, v, true, rfl, v40.1, by omega, isT (Same.refl _), fun H8 s8 => ?_⟩
        have hx8 := s8 _ _ hx
        refine ⟨_, rfl, g, 6, xs, rfl, rfl, SqT.of hx8, (fun e => by rw [e] at lx; simp at lx; omega), by decide, by decide, by omega, fun R6 hR6 => ⟨_, rfl, ?_⟩⟩
        refine slA_to (k := 6) (zs := (List.replicate 6 xs).flatten) upd_same fun S6 H9 s9 e9 => ?_
        have s89 : Same H8 H9 := (Same.new hR6).trans s9
        have l6 : ∀ m : Nat, (List.replicate m xs).flatten.length = m * xs.length := fun m => by simp
        refine ⟨_, rfl, .ref S6, v, true, rfl, v40.1, by omega, ?_, fun H10 s10 => ?_⟩
        · refine .inr (.inr ⟨S6, _, ((List.replicate 6 gs).flatten.take 6).map fun g => pairB v g.1 g.2, rfl, e9, ?_, ?_, pairs_of (paired_take 6 (paired_rep (grs_same (s8.trans s89) hxP) 6)), ?_⟩)
          · rw [List.length_take, l6]; omega
          · rw [List.length_take]; omega
          · rw [pairs_true (s := v) (fun g hg => ?_) (Int.le_refl v)]
            have m1 := List.mem_of_mem_take hg
            rw [List.mem_flatten] at m1
            obtain ⟨l, hl1, hl2⟩ := m1
            exact hG.2.2 g (by rw [List.eq_of_mem_replicate hl1] at hl2; exact hl2)
        have hx10 := s10 _ _ (s89 _ _ hx8)
        refine ⟨_, rfl, g, xs, rfl, .inr (SqT.of hx10), fun l hl2 => ⟨_, rfl, .ref l, v, false, rfl, v40.1, by omega, .inl ⟨l, xs, rfl, upd_same, rfl⟩, fun H11 s11 => ⟨(by show 3 ≤ sizeLine; decide), fun T hT => ?_⟩⟩⟩
        have s7T : Same H7 (upd H11 T (.lst [.bl true, .bl true, .bl false])) := ((((s8.trans s89).trans s10).trans (Same.new hl2)).trans s11).trans (Same.new hT)
        generalize hHT : upd H11 T (.lst [.bl true, .bl true, .bl false]) = HT at s7T
        have eT : HT T = some (.lst [.bl true, .bl true, .bl false]) := by rw [← hHT]; exact upd_same
        -- the second part
        have hxT := s7T _ _ hx
        refine ⟨_, rfl, _, rfl, g, 7, xs, rfl, rfl, SqT.of hxT, (fun e => by rw [e] at lx; simp at lx; omega), by decide, by decide, by omega, fun R7 hR7 => ⟨_, rfl, ?_⟩⟩
        refine slA_to (k := 7) (zs := (List.replicate 7 xs).flatten) upd_same fun S7 H12 s12 e12 => ?_
        have sT12 : Same HT H12 := (Same.new hR7).trans s12
        refine ⟨_, rfl, .ref S7, v, false, rfl, v40.1, by omega, .inr (.inl ⟨S7, _, rfl, e12, ?_, rfl⟩), fun H13 s13 => ?_⟩
        · rw [List.length_take, l6]; omega
        have hx13 := s13 _ _ (sT12 _ _ hxT)
        refine ⟨_, rfl, g, rfl, ⟨_, SqT.of hx13⟩, fun D hD => ?_⟩
        refine lc_tup (xs := xs) (fun i' H' => ∃ zs, Same H13 H' ∧ H' D = some (.lst zs) ∧ zs.length = i' ∧ ∀ z ∈ zs, ∃ b ys, z = .ref b ∧ H' b = some (.lst ys) ∧ b ≠ D) ⟨[], Same.new hD, upd_same, rfl, fun _ h => (List.not_mem_nil h).elim⟩ (fun _ H' _ ⟨_, s, _⟩ => SqT.of (s _ _ hx13)) ?_ ?_
        · rintro i' x H' hx' ⟨zs, s14, e14, lz, hz⟩
          obtain ⟨gr, hg, b, rfl, hb⟩ := paired_at (grs_same ((s7T.trans sT12).trans (s13.trans s14)) hxP) hx'
          refine ⟨rfl, _, rfl, b, _, rfl, .inr (SqT.of hb), fun l hl3 => ?_⟩
          have nlD : D ≠ l := fun e => by rw [← e, e14] at hl3; cases hl3
          refine ⟨zs, (by rw [upd_ne nlD]; exact e14), small1000 (by have := (List.getElem?_eq_some_iff.mp hx').1; omega), zs ++ [.ref l], fun b' o h => ?_, upd_same, by simp [lz], ?_⟩
          · rw [upd_ne (ne_of_none h hD)]
            exact Same.new hl3 _ _ (s14 _ _ h)
          · intro z hz'
            rcases List.mem_append.mp hz' with h | h
            · obtain ⟨b', ys, rfl, hb', hbD⟩ := hz z h
              refine ⟨b', ys, rfl, ?_, hbD⟩
              rw [upd_ne hbD]
              exact Same.new hl3 _ _ hb'
            · rw [List.mem_singleton.mp h]
              refine ⟨l, [.int gr.1, .int gr.2], rfl, ?_, nlD.symm⟩
              rw [upd_ne nlD.symm, upd_same]
        · rintro H14 ⟨zs, s14, e14, lz, hz⟩
          refine ⟨D, zs, rfl, .inl ⟨SqL.of e14, fun W hW => ⟨_, rfl, .ref W, v, false, rfl, v40.1, by omega, ?_, fun H15 s15 => ⟨(by show 2 ≤ sizeLine; decide), fun T2 hT2 => ?_⟩⟩⟩⟩
          · refine .inr (.inr ⟨W, zs, zs.map fun _ => false, rfl, upd_same, by omega, by omega, ?_, ?_⟩)
            · have all : ∀ us : List V, (∀ z ∈ us, ∃ b ys, z = .ref b ∧ H14 b = some (.lst ys) ∧ b ≠ D) → Paired (PairK (upd H14 W (.tup zs)) v) us (us.map fun _ => false) := by
                intro us
                induction us with
                | nil => intro _; exact .nil
                | cons z r ih =>
                  intro h
                  obtain ⟨b, ys, e, hb, _⟩ := h z List.mem_cons_self
                  exact .cons (.inr (.inr ⟨b, ys, e, Same.new hW _ _ hb, rfl⟩)) (ih fun z' hz' => h z' (List.mem_cons_of_mem _ hz'))
              exact all zs hz
            · cases zs with
              | nil => simp at lz; omega
              | cons z r => rfl
          have sT15 : Same HT (upd H15 T2 (.lst [.bl false, .bl false])) := ((((sT12.trans s13).trans s14).trans (Same.new hW)).trans s15).trans (Same.new hT2)
          refine ⟨T, T2, _, _, rfl, rfl, sT15 _ _ eT, upd_same, (by show 5 ≤ sizeLine; decide), fun T3 hT3 => ?_⟩
          have sh5 := bools_show [true, true, false, false, false]
          refine ⟨_, rfl, .ref T3, boolsD [true, true, false, false, false], rfl, .lst (SqL.of upd_same) (dp_bools [true, true, false, false, false]), sh5.1, sh5.2.1, sh5.2.2, bools_len _ (by decide), (fun _ z => nomatch z), (by show 5 ≤ sizeLine; decide), fun T4 hT4 => ?_⟩
          refine ⟨.ref T4, boolsD [true, true, false, false, false], rfl, .lst (SqL.of upd_same) (dp_bools [true, true, false, false, false]), sh5.1, sh5.2.1, sh5.2.2, bools_len _ (by decide), (fun _ z => nomatch z), rfl, _, rfl, iteNS rfl ?_⟩
          have s7F : Same H7 (upd (upd (upd H15 T2 (.lst [.bl false, .bl false])) T3 (.lst ([.bl true, .bl true, .bl false] ++ [.bl false, .bl false]))) T4 (.lst [.bl true, .bl true, .bl false, .bl false, .bl false])) := ((s7T.trans sT15).trans (Same.new hT3)).trans (Same.new hT4)
          generalize hHF : upd (upd (upd H15 T2 (.lst [.bl false, .bl false])) T3 (.lst ([.bl true, .bl true, .bl false] ++ [.bl false, .bl false]))) T4 (.lst [.bl true, .bl true, .bl false, .bl false, .bl false]) = HF at s7F
          -- other
          have hxF := s7F _ _ hx
          have hxPF := grs_same s7F hxP
          refine ⟨_, rfl, _, rfl, _, rfl, ?_⟩
          refine slA_but hxF (by omega) fun M H16 s16 e16 => ?_
          refine ⟨_, rfl, (by show 2 ≤ sizeLine; decide), fun T5 hT5 => ⟨(by show 1 ≤ sizeLine; decide), fun U hU => ?_⟩⟩
          refine catA_to (xs := xs.take (xs.length - 1)) (u := .ref T5) (Same.new hU _ _ (Same.new hT5 _ _ e16)) upd_same (by rw [List.length_take]; omega) fun W2 H17 s17 e17 => ?_
          have s16' : Same H16 H17 := ((Same.new hT5).trans (Same.new hU)).trans s17
          have t5 := s17 _ _ (Same.new hU (o := .tup [.ref T5]) _ _ (upd_same (H := H16) (a := T5) (o := .tup [.int v, .int 1])))
          have hzs := paired_take (xs.length - 1) (grs_same (s16.trans s16') hxPF)
          have hin : ∀ g ∈ gs.take (xs.length - 1), 0 ≤ g.1 ∧ g.1 < v ∧ 1 ≤ g.2 ∧ g.2 ≤ v := fun g hg => hG.2.2 g (List.mem_of_mem_take hg)
          have l5 : (xs.take (xs.length - 1)).length ≤ 5 := by rw [List.length_take]; omega
          have k1 := sig_snoc (c := v + 1) e17 hzs hin (by omega) l5 t5
          rw [show pairB (v + 1) v 1 = true by simp [pairB]; omega] at k1
          refine ⟨_, rfl, _, rfl, _, _, rfl, rfl, .ref W2, v + 1, true, rfl, by omega, by omega, k1, fun H18 s18 => ?_⟩
          have k2 := sig_snoc (c := v) (s18 _ _ e17) (grs_same s18 hzs) hin (by omega) l5 (s18 _ _ t5)
          rw [show pairB v v 1 = false by simp [pairB]] at k2
          refine ⟨_, rfl, _, rfl, .ref W2, v, false, rfl, by omega, by omega, k2, fun H19 s19 => ?_⟩
          have sF19 : Same HF H19 := ((s16.trans s16').trans s18).trans s19
          refine ⟨_, rfl, _, rfl, _, rfl, ?_⟩
          refine slA_but (sF19 _ _ hxF) (by omega) fun M2 H20 s20 e20 => ?_
          refine ⟨_, rfl, _, _, rfl, rfl, (by show 2 ≤ sizeLine; decide), fun T6 hT6 => ⟨(by show 1 ≤ sizeLine; decide), fun U2 hU2 => ?_⟩⟩
          refine catA_to (xs := xs.take (xs.length - 1)) (u := .ref T6) (Same.new hU2 _ _ (Same.new hT6 _ _ e20)) upd_same (by rw [List.length_take]; omega) fun W3 H21 s21 e21 => ?_
          have s20' : Same H20 H21 := ((Same.new hT6).trans (Same.new hU2)).trans s21
          have t6 := s21 _ _ (Same.new hU2 (o := .tup [.ref T6]) _ _ (upd_same (H := H20) (a := T6) (o := .tup [.int 0, .int (v + 1)])))
          have k3 := sig_snoc (c := v) e21 (paired_take (xs.length - 1) (grs_same ((sF19.trans s20).trans s20') hxPF)) hin (by omega) l5 t6
          rw [show pairB v 0 (v + 1) = false by simp [pairB]; omega] at k3
          refine ⟨_, rfl, .ref W3, v, false, rfl, by omega, by omega, k3, fun H22 s22 => ⟨(by show 3 ≤ sizeLine; decide), fun T7 hT7 => ?_⟩⟩
          have sh3 := bools_show [true, false, false]
          refine ⟨_, rfl, .ref T7, boolsD [true, false, false], rfl, .lst (SqL.of upd_same) (dp_bools [true, false, false]), sh3.1, sh3.2.1, sh3.2.2, bools_len _ (by decide), (fun _ z => nomatch z), (by show 3 ≤ sizeLine; decide), fun T8 hT8 => ?_⟩
          refine ⟨.ref T8, boolsD [true, false, false], rfl, .lst (SqL.of upd_same) (dp_bools [true, false, false]), sh3.1, sh3.2.1, sh3.2.2, bools_len _ (by decide), (fun _ z => nomatch z), rfl, _, rfl, iteNS rfl ?_⟩
          have s7E := ((((s7F.trans sF19).trans (s20.trans s20')).trans s22).trans (Same.new hT7 (o := .lst [.bl true, .bl false, .bl false]))).trans (Same.new hT8 (o := .lst [.bl true, .bl false, .bl false]))
          exact ⟨_, _, _, _, _, _, _, rfl, bb.trans (Same.but s7E), (pd7.same s7E).mono (by push_cast; omega)⟩
      · rintro σ H2 ⟨y3, y4, y5, y6, y7, y8, y9, rfl, b2, pd2⟩
        exact ⟨_, _, _, _, _, _, _, _, _, rfl, s0.trans (b2.same s1 hp0)⟩
    · rintro σ H0 ⟨y1, y2, y3, y4, y5, y6, y7, y8, y9, rfl, s0⟩
      refine ⟨(by show 2 ≤ sizeLine; decide), fun E0' hE0 => ⟨36, rfl, by decide, by decide, ?_⟩⟩
      refine for_range (lo := 0) (fun i σ H' => ∃ y3 y6 Z, σ = [some (.ref a), y1, y2, y3, y4, y5, y6, y7, y8, y9, some (.ref Z)] ∧ (i = 0 → H' Z = some (.tup [.int 0, .int 1])) ∧ (i ≠ 0 → ∃ x, H' Z = some (.tup [x]))) ⟨_, _, E0', rfl, fun _ => upd_same, fun h => absurd rfl h⟩ ?_ ?_
      · rintro i σ H1 hi ⟨y3, y6, Z, rfl, z0, z1⟩
        refine ⟨_, rfl, (by show 1 ≤ sizeLine; decide), fun Y hY => ?_⟩
        have pk : PairK H1 10 (.ref Z) (decide (i = 0)) := by
          by_cases h : i = 0
          · rw [decide_eq_true h]
            exact .inl ⟨Z, 0, 1, rfl, z0 h, by decide⟩
          · rw [decide_eq_false h]
            obtain ⟨x, e⟩ := z1 h
            exact .inr (.inl ⟨Z, [x], rfl, e, by simp, rfl⟩)
        refine ⟨_, rfl, .ref Y, 10, decide (i = 0), rfl, by decide, by decide +kernel, .inr (.inr ⟨Y, [.ref Z], [decide (i = 0)], rfl, upd_same, by simp, by simp, .cons (pk.mono (Same.new hY)) .nil, by simp⟩), fun H2 s2 => ?_⟩
        refine ⟨(by show 2 ≤ sizeLine; decide), fun T hT => ⟨_, rfl, (by show 2 ≤ sizeLine; decide), fun U hU => ⟨.ref U, 10, false, rfl, by decide, by decide +kernel, ?_, fun H3 s3 => ?_⟩⟩⟩
        · exact .inr (.inr ⟨U, [.ref T, .ref Y], [true, false], rfl, upd_same, by simp, by simp, .cons (.inl ⟨T, 0, 1, rfl, Same.new hU _ _ upd_same, by decide⟩) (.cons (.inr (.inl ⟨Y, [.ref Z], rfl, Same.new hU _ _ (Same.new hT _ _ (s2 _ _ upd_same)), by simp, rfl⟩)) .nil), rfl⟩)
        have sY3 := ((s2.trans (Same.new hT (o := .tup [.int 0, .int 1]))).trans (Same.new hU (o := .tup [.ref T, .ref Y]))).trans s3
        refine ⟨_, rfl, (by show 1 ≤ sizeLine; decide), fun L hL => ⟨.ref L, 10, false, rfl, by decide, by decide +kernel, .inl ⟨L, _, rfl, upd_same, rfl⟩, fun H4 s4 => ⟨(by show 3 ≤ sizeLine; decide), fun T2 hT2 => ?_⟩⟩⟩
        have sh3 := bools_show [decide (i = 0), false, false]
        refine ⟨_, rfl, .ref T2, boolsD [decide (i = 0), false, false], rfl, .lst (SqL.of upd_same) (dp_bools [decide (i = 0), false, false]), sh3.1, sh3.2.1, sh3.2.2, bools_len _ (by simp), (fun _ z => nomatch z), ?_⟩
        refine ⟨_, rfl, rfl, (by show 3 ≤ sizeLine; decide), fun T3 hT3 => ?_⟩
        have ei : decide (V.int (0 + (i : Int)) = V.int 0) = decide (i = 0) := by
          congr 1
          apply propext
          constructor
          · intro h; have := V.int.inj h; omega
          · intro h; rw [h]; rfl
        rw [ei]
        refine ⟨.ref T3, boolsD [decide (i = 0), false, false], rfl, .lst (SqL.of upd_same) (dp_bools [decide (i = 0), false, false]), sh3.1, sh3.2.1, sh3.2.2, bools_len _ (by simp), (fun _ z => nomatch z), rfl, _, rfl, iteNS rfl ?_⟩
        exact ⟨_, _, Y, rfl, fun h => absurd h (by omega), fun _ => ⟨.ref Z, Same.new hT3 _ _ (Same.new hT2 _ _ (s4 _ _ (Same.new hL _ _ (sY3 _ _ upd_same))))⟩⟩
      · rintro σ H1 ⟨y3, y6, Z, rfl, _, _⟩
        have okS : OkG 10 [(8, 4)] := ⟨by decide, by decide, fun g hg => by rw [List.mem_singleton.mp hg]; decide⟩
        refine ⟨(by show 2 ≤ sizeLine; decide), fun T hT => ⟨(by show 1 ≤ sizeLine; decide), fun U hU => ?_⟩⟩
        refine ⟨_, rfl, U, 10, -19, [(8, 4)], rfl, by decide, by decide +kernel, ⟨[.ref T], upd_same, .cons ⟨T, rfl, Same.new hU _ _ upd_same⟩ .nil⟩, okS, fun H2 s2 => ?_⟩
        rw [show lit 10 [(8, 4)] (-19) = true by decide]
        refine ⟨_, rfl, (by show 2 ≤ sizeLine; decide), fun T2 hT2 => ⟨(by show 1 ≤ sizeLine; decide), fun U2 hU2 => ?_⟩⟩
        refine ⟨U2, 10, 12, [(8, 4)], rfl, by decide, by decide +kernel, ⟨[.ref T2], upd_same, .cons ⟨T2, rfl, Same.new hU2 _ _ upd_same⟩ .nil⟩, okS, fun H3 s3 => ?_⟩
        rw [show lit 10 [(8, 4)] 12 = false by decide]
        exact ⟨_, rfl, q _⟩
end
end Gr

set_option Elab.async false
set_option linter.all false
set_option maxRecDepth 100000
set_option maxHeartbeats 8000000
namespace Gr
open PySem PySem.Spec PyProof.Rows L2
theorem all_mk {l : PySem.W.OpenLaw} {w : World} {K : PySem.W.Frag} {h : Heap} {mg : Str → Option Value} {fa : Addr} (X : K.In h) (G : h.Ns mainGlobals mg) (hfa : mg "law" = some (.ref fa))
    {f0 : Addr} {od0 an0 : Option Addr} {sl0 : Array (Option Value)} {oc0 kV0 dc0 pm0 cd0 ct0 : Value}
    (a0 : PySem.W.nsIn K mainGlobals "is_whole" = some (some (.ref f0))) (l0 : K.lookup f0 = some ⟨oc0, od0, .func (PySem.W.fnOf "is_whole" "is_whole" (defArgs s_is_whole) (defBody s_is_whole) (defScope s_is_whole) .none kV0 dc0 pm0 an0 cd0 ct0), sl0⟩) (c0 : PySem.W.codeIn K cd0 "is_whole" = true) (k0 : PySem.W.keepIn K (.ref f0) = true)
    {f1 : Addr} {od1 an1 : Option Addr} {sl1 : Array (Option Value)} {oc1 kV1 dc1 pm1 cd1 ct1 : Value}
    (a1 : PySem.W.nsIn K mainGlobals "check_cycle" = some (some (.ref f1))) (l1 : K.lookup f1 = some ⟨oc1, od1, .func (PySem.W.fnOf "check_cycle" "check_cycle" (defArgs s_check_cycle) (defBody s_check_cycle) (defScope s_check_cycle) .none kV1 dc1 pm1 an1 cd1 ct1), sl1⟩) (c1 : PySem.W.codeIn K cd1 "check_cycle" = true) (k1 : PySem.W.keepIn K (.ref f1) = true)
    {f2 : Addr} {od2 an2 : Option Addr} {sl2 : Array (Option Value)} {oc2 kV2 dc2 pm2 cd2 ct2 : Value}
    (a2 : PySem.W.nsIn K mainGlobals "check_moment" = some (some (.ref f2))) (l2 : K.lookup f2 = some ⟨oc2, od2, .func (PySem.W.fnOf "check_moment" "check_moment" (defArgs s_check_moment) (defBody s_check_moment) (defScope s_check_moment) .none kV2 dc2 pm2 an2 cd2 ct2), sl2⟩) (c2 : PySem.W.codeIn K cd2 "check_moment" = true) (k2 : PySem.W.keepIn K (.ref f2) = true)
    {f3 : Addr} {od3 an3 : Option Addr} {sl3 : Array (Option Value)} {oc3 kV3 dc3 pm3 cd3 ct3 : Value}
    (a3 : PySem.W.nsIn K mainGlobals "is_green_pair" = some (some (.ref f3))) (l3 : K.lookup f3 = some ⟨oc3, od3, .func (PySem.W.fnOf "is_green_pair" "is_green_pair" (defArgs s_is_green_pair) (defBody s_is_green_pair) (defScope s_is_green_pair) .none kV3 dc3 pm3 an3 cd3 ct3), sl3⟩) (c3 : PySem.W.codeIn K cd3 "is_green_pair" = true) (k3 : PySem.W.keepIn K (.ref f3) = true)
    {f4 : Addr} {od4 an4 : Option Addr} {sl4 : Array (Option Value)} {oc4 kV4 dc4 pm4 cd4 ct4 : Value}
    (a4 : PySem.W.nsIn K mainGlobals "is_signal" = some (some (.ref f4))) (l4 : K.lookup f4 = some ⟨oc4, od4, .func (PySem.W.fnOf "is_signal" "is_signal" (defArgs s_is_signal) (defBody s_is_signal) (defScope s_is_signal) .none kV4 dc4 pm4 an4 cd4 ct4), sl4⟩) (c4 : PySem.W.codeIn K cd4 "is_signal" = true) (k4 : PySem.W.keepIn K (.ref f4) = true)
    {f5 : Addr} {od5 an5 : Option Addr} {sl5 : Array (Option Value)} {oc5 kV5 dc5 pm5 cd5 ct5 : Value}
    (a5 : PySem.W.nsIn K mainGlobals "check_signal" = some (some (.ref f5))) (l5 : K.lookup f5 = some ⟨oc5, od5, .func (PySem.W.fnOf "check_signal" "check_signal" (defArgs s_check_signal) (defBody s_check_signal) (defScope s_check_signal) .none kV5 dc5 pm5 an5 cd5 ct5), sl5⟩) (c5 : PySem.W.codeIn K cd5 "check_signal" = true) (k5 : PySem.W.keepIn K (.ref f5) = true)
    {f6 : Addr} {od6 an6 : Option Addr} {sl6 : Array (Option Value)} {oc6 kV6 dc6 pm6 cd6 ct6 : Value}
    (a6 : PySem.W.nsIn K mainGlobals "is_green" = some (some (.ref f6))) (l6 : K.lookup f6 = some ⟨oc6, od6, .func (PySem.W.fnOf "is_green" "is_green" (defArgs s_is_green) (defBody s_is_green) (defScope s_is_green) .none kV6 dc6 pm6 an6 cd6 ct6), sl6⟩) (c6 : PySem.W.codeIn K cd6 "is_green" = true) (k6 : PySem.W.keepIn K (.ref f6) = true)
    {f7 : Addr} {od7 an7 : Option Addr} {sl7 : Array (Option Value)} {oc7 kV7 dc7 pm7 cd7 ct7 : Value}
    (a7 : PySem.W.nsIn K mainGlobals "_law_pond" = some (some (.ref f7))) (l7 : K.lookup f7 = some ⟨oc7, od7, .func (PySem.W.fnOf "_law_pond" "_law_pond" (defArgs s_l_pond) (defBody s_l_pond) (defScope s_l_pond) .none kV7 dc7 pm7 an7 cd7 ct7), sl7⟩) (c7 : PySem.W.codeIn K cd7 "_law_pond" = true) (k7 : PySem.W.keepIn K (.ref f7) = true)
    {f8 : Addr} {od8 an8 : Option Addr} {sl8 : Array (Option Value)} {oc8 kV8 dc8 pm8 cd8 ct8 : Value}
    (a8 : PySem.W.nsIn K mainGlobals "_law_fish" = some (some (.ref f8))) (l8 : K.lookup f8 = some ⟨oc8, od8, .func (PySem.W.fnOf "_law_fish" "_law_fish" (defArgs s_l_fish) (defBody s_l_fish) (defScope s_l_fish) .none kV8 dc8 pm8 an8 cd8 ct8), sl8⟩) (c8 : PySem.W.codeIn K cd8 "_law_fish" = true) (k8 : PySem.W.keepIn K (.ref f8) = true)
    {f9 : Addr} {od9 an9 : Option Addr} {sl9 : Array (Option Value)} {oc9 kV9 dc9 pm9 cd9 ct9 : Value}
    (a9 : PySem.W.nsIn K mainGlobals "_law_greens" = some (some (.ref f9))) (l9 : K.lookup f9 = some ⟨oc9, od9, .func (PySem.W.fnOf "_law_greens" "_law_greens" (defArgs s_l_greens) (defBody s_l_greens) (defScope s_l_greens) .none kV9 dc9 pm9 an9 cd9 ct9), sl9⟩) (c9 : PySem.W.codeIn K cd9 "_law_greens" = true) (k9 : PySem.W.keepIn K (.ref f9) = true)
    {f10 : Addr} {od10 an10 : Option Addr} {sl10 : Array (Option Value)} {oc10 kV10 dc10 pm10 cd10 ct10 : Value}
    (a10 : PySem.W.nsIn K mainGlobals "_law_rests" = some (some (.ref f10))) (l10 : K.lookup f10 = some ⟨oc10, od10, .func (PySem.W.fnOf "_law_rests" "_law_rests" (defArgs s_l_rests) (defBody s_l_rests) (defScope s_l_rests) .none kV10 dc10 pm10 an10 cd10 ct10), sl10⟩) (c10 : PySem.W.codeIn K cd10 "_law_rests" = true) (k10 : PySem.W.keepIn K (.ref f10) = true)
    {f11 : Addr} {od11 an11 : Option Addr} {sl11 : Array (Option Value)} {oc11 kV11 dc11 pm11 cd11 ct11 : Value}
    (a11 : PySem.W.nsIn K mainGlobals "_law_scaled" = some (some (.ref f11))) (l11 : K.lookup f11 = some ⟨oc11, od11, .func (PySem.W.fnOf "_law_scaled" "_law_scaled" (defArgs s_l_scaled) (defBody s_l_scaled) (defScope s_l_scaled) .none kV11 dc11 pm11 an11 cd11 ct11), sl11⟩) (c11 : PySem.W.codeIn K cd11 "_law_scaled" = true) (k11 : PySem.W.keepIn K (.ref f11) = true)
    {f12 : Addr} {od12 an12 : Option Addr} {sl12 : Array (Option Value)} {oc12 kV12 dc12 pm12 cd12 ct12 : Value}
    (a12 : PySem.W.nsIn K mainGlobals "_law_right" = some (some (.ref f12))) (l12 : K.lookup f12 = some ⟨oc12, od12, .func (PySem.W.fnOf "_law_right" "_law_right" (defArgs s_l_right) (defBody s_l_right) (defScope s_l_right) .none kV12 dc12 pm12 an12 cd12 ct12), sl12⟩) (c12 : PySem.W.codeIn K cd12 "_law_right" = true) (k12 : PySem.W.keepIn K (.ref f12) = true)
    {f13 : Addr} {od13 an13 : Option Addr} {sl13 : Array (Option Value)} {oc13 kV13 dc13 pm13 cd13 ct13 : Value}
    (a13 : PySem.W.nsIn K mainGlobals "law" = some (some (.ref f13))) (l13 : K.lookup f13 = some ⟨oc13, od13, .func (PySem.W.fnOf "law" "law" (defArgs s_law) (defBody s_law) (defScope s_law) .none kV13 dc13 pm13 an13 cd13 ct13), sl13⟩) (c13 : PySem.W.codeIn K cd13 "law" = true) (k13 : PySem.W.keepIn K (.ref f13) = true)
    (z0 : PySem.W.nsIn K mainGlobals "all" = some none)
    (z1 : PySem.W.nsIn K mainGlobals "any" = some none)
    (z2 : PySem.W.nsIn K mainGlobals "bool" = some none)
    (z3 : PySem.W.nsIn K mainGlobals "int" = some none)
    (z4 : PySem.W.nsIn K mainGlobals "isinstance" = some none)
    (z5 : PySem.W.nsIn K mainGlobals "len" = some none)
    (z6 : PySem.W.nsIn K mainGlobals "list" = some none)
    (z7 : PySem.W.nsIn K mainGlobals "max" = some none)
    (z8 : PySem.W.nsIn K mainGlobals "min" = some none)
    (z9 : PySem.W.nsIn K mainGlobals "range" = some none)
    (z10 : PySem.W.nsIn K mainGlobals "repr" = some none)
    (z11 : PySem.W.nsIn K mainGlobals "tuple" = some none)
    {tMOST_CYCLE : Tok} (mMOST_CYCLE : PySem.W.nsIn K mainGlobals "MOST_CYCLE" = some (some (.int 1000000000000000000000000000000 tMOST_CYCLE)))
    {tMOST_GREENS : Tok} (mMOST_GREENS : PySem.W.nsIn K mainGlobals "MOST_GREENS" = some (some (.int 6 tMOST_GREENS)))
    : ∃ fd : FuncData, (∀ (s : Shared) (v : Value), BindsTo s fd ⟨[v], []⟩ [("_law_script", v)]) ∧ ∀ base : Heap, K.In base → base.Ns mainGlobals mg → FnG l.prog w K mg base CX0 7 fa fd ["_law_script"] (spLaw K) := by
  have e := hfa.symm.trans (PySem.W.mg_of X G a13)
  cases e
  have B : Blt mg tMOST_CYCLE tMOST_GREENS := ⟨PySem.W.mg_none_of X G z0, PySem.W.mg_none_of X G z1, PySem.W.mg_none_of X G z2, PySem.W.mg_none_of X G z3, PySem.W.mg_none_of X G z4, PySem.W.mg_none_of X G z5, PySem.W.mg_none_of X G z6, PySem.W.mg_none_of X G z7, PySem.W.mg_none_of X G z8, PySem.W.mg_none_of X G z9, PySem.W.mg_none_of X G z10, PySem.W.mg_none_of X G z11, (PySem.W.mg_of X G mMOST_CYCLE).trans (congrArg (fun z => some (Value.int z tMOST_CYCLE)) (show (1000000000000000000000000000000 : Int) = (10 ^ 30) by decide +kernel)), (PySem.W.mg_of X G mMOST_GREENS).trans (congrArg (fun z => some (Value.int z tMOST_GREENS)) (show (6 : Int) = 6 by decide +kernel))⟩
  have F0 := fun_mk (st := s_is_whole) l0 c0 k0
  have Dis_whole : Def K mg "is_whole" s_is_whole ["value"] f0 _ := ⟨F0, PySem.W.mg_of X G a0, F0.binds (ps := ["value"]) fun _ _ _ _ _ _ us hl => match us, hl with | [_], _ => rfl⟩
  have F1 := fun_mk (st := s_check_cycle) l1 c1 k1
  have Dcheck_cycle : Def K mg "check_cycle" s_check_cycle ["cycle"] f1 _ := ⟨F1, PySem.W.mg_of X G a1, F1.binds (ps := ["cycle"]) fun _ _ _ _ _ _ us hl => match us, hl with | [_], _ => rfl⟩
  have F2 := fun_mk (st := s_check_moment) l2 c2 k2
  have Dcheck_moment : Def K mg "check_moment" s_check_moment ["moment"] f2 _ := ⟨F2, PySem.W.mg_of X G a2, F2.binds (ps := ["moment"]) fun _ _ _ _ _ _ us hl => match us, hl with | [_], _ => rfl⟩
  have F3 := fun_mk (st := s_is_green_pair) l3 c3 k3
  have Dis_green_pair : Def K mg "is_green_pair" s_is_green_pair ["value", "cycle"] f3 _ := ⟨F3, PySem.W.mg_of X G a3, F3.binds (ps := ["value", "cycle"]) fun _ _ _ _ _ _ us hl => match us, hl with | [_, _], _ => rfl⟩
  have F4 := fun_mk (st := s_is_signal) l4 c4 k4
  have Dis_signal : Def K mg "is_signal" s_is_signal ["value", "cycle"] f4 _ := ⟨F4, PySem.W.mg_of X G a4, F4.binds (ps := ["value", "cycle"]) fun _ _ _ _ _ _ us hl => match us, hl with | [_, _], _ => rfl⟩
  have F5 := fun_mk (st := s_check_signal) l5 c5 k5
  have Dcheck_signal : Def K mg "check_signal" s_check_signal ["cycle", "signal"] f5 _ := ⟨F5, PySem.W.mg_of X G a5, F5.binds (ps := ["cycle", "signal"]) fun _ _ _ _ _ _ us hl => match us, hl with | [_, _], _ => rfl⟩
  have F6 := fun_mk (st := s_is_green) l6 c6 k6
  have Dis_green : Def K mg "is_green" s_is_green ["cycle", "signal", "moment"] f6 _ := ⟨F6, PySem.W.mg_of X G a6, F6.binds (ps := ["cycle", "signal", "moment"]) fun _ _ _ _ _ _ us hl => match us, hl with | [_, _, _], _ => rfl⟩
  have F7 := fun_mk (st := s_l_pond) l7 c7 k7
  have Dl_pond : Def K mg "_law_pond" s_l_pond ["_law_script", "_law_k"] f7 _ := ⟨F7, PySem.W.mg_of X G a7, F7.binds (ps := ["_law_script", "_law_k"]) fun _ _ _ _ _ _ us hl => match us, hl with | [_, _], _ => rfl⟩
  have F8 := fun_mk (st := s_l_fish) l8 c8 k8
  have Dl_fish : Def K mg "_law_fish" s_l_fish ["_law_pond_here", "_law_bound"] f8 _ := ⟨F8, PySem.W.mg_of X G a8, F8.binds (ps := ["_law_pond_here", "_law_bound"]) fun _ _ _ _ _ _ us hl => match us, hl with | [_, _], _ => rfl⟩
  have F9 := fun_mk (st := s_l_greens) l9 c9 k9
  have Dl_greens : Def K mg "_law_greens" s_l_greens ["_law_pond_here", "_law_span"] f9 _ := ⟨F9, PySem.W.mg_of X G a9, F9.binds (ps := ["_law_pond_here", "_law_span"]) fun _ _ _ _ _ _ us hl => match us, hl with | [_, _], _ => rfl⟩
  have F10 := fun_mk (st := s_l_rests) l10 c10 k10
  have Dl_rests : Def K mg "_law_rests" s_l_rests ["_law_span", "_law_greens_here"] f10 _ := ⟨F10, PySem.W.mg_of X G a10, F10.binds (ps := ["_law_span", "_law_greens_here"]) fun _ _ _ _ _ _ us hl => match us, hl with | [_, _], _ => rfl⟩
  have F11 := fun_mk (st := s_l_scaled) l11 c11 k11
  have Dl_scaled : Def K mg "_law_scaled" s_l_scaled ["_law_greens_here", "_law_factor"] f11 _ := ⟨F11, PySem.W.mg_of X G a11, F11.binds (ps := ["_law_greens_here", "_law_factor"]) fun _ _ _ _ _ _ us hl => match us, hl with | [_, _], _ => rfl⟩
  have F12 := fun_mk (st := s_l_right) l12 c12 k12
  have Dl_right : Def K mg "_law_right" s_l_right ["_law_pond_here", "_law_span", "_law_greens_here"] f12 _ := ⟨F12, PySem.W.mg_of X G a12, F12.binds (ps := ["_law_pond_here", "_law_span", "_law_greens_here"]) fun _ _ _ _ _ _ us hl => match us, hl with | [_, _, _], _ => rfl⟩
  have F13 := fun_mk (st := s_law) l13 c13 k13
  have Dlaw : Def K mg "law" s_law ["_law_script"] fa _ := ⟨F13, PySem.W.mg_of X G a13, F13.binds (ps := ["_law_script"]) fun _ _ _ _ _ _ us hl => match us, hl with | [_], _ => rfl⟩
  refine ⟨PySem.W.fnOf "law" "law" (defArgs s_law) (defBody s_law) (defScope s_law) .none kV13 dc13 pm13 an13 cd13 ct13, fun s v => .of_eq rfl, fun base _ _ => ?_⟩
  have Gis_signal := ok_is_signal (P := l.prog) (w := w) (base := base) B Dis_signal Dis_whole Dcheck_cycle Dis_green_pair
  have Gis_green := ok_is_green (P := l.prog) (w := w) (base := base) B Dis_green Dcheck_signal Dcheck_moment Dis_signal Dis_whole Dcheck_cycle Dis_green_pair
  have Gl_right := ok_right (P := l.prog) (w := w) (base := base) B Dl_right Dl_fish Dl_rests Dl_scaled Dis_green Dis_signal Gis_green Gis_signal
  exact ok_law B Dlaw Dl_fish Dl_pond Dl_greens Dis_green Dis_signal Dl_right Gis_green Gis_signal Gl_right
end Gr
open PySem PySem.W PyProof.Rows
set_option maxHeartbeats 0 in
theorem PySem.Challenge.cw_greenroads_k01_green_moments_holds : PySem.Challenge.rw_greenroads_k01_green_moments.Holds := by
  w_on; o_law; k_head; (case hw => w_witness2)
  k_fill
  refine Gr.walkG (l := PySem.Challenge.rw_greenroads_k01_green_moments) (n := 63) (k := 7) (x := "_law_script") (sp := Gr.spLaw) rfl (by decide) rfl ⟨rfl, by decide, by decide⟩ (fun w h Y => PySem.W.kIn_of Y) ?F (fun K G a ns hl _ hS => ⟨a, ns, rfl, hS, hl, fun _ => rfl⟩)
  case F =>
    intro w mg fa h KX G hmg
    refine' Gr.all_mk KX G hmg ?a0 ?l0 ?c0 ?k0 ?a1 ?l1 ?c1 ?k1 ?a2 ?l2 ?c2 ?k2 ?a3 ?l3 ?c3 ?k3 ?a4 ?l4 ?c4 ?k4 ?a5 ?l5 ?c5 ?k5 ?a6 ?l6 ?c6 ?k6 ?a7 ?l7 ?c7 ?k7 ?a8 ?l8 ?c8 ?k8 ?a9 ?l9 ?c9 ?k9 ?a10 ?l10 ?c10 ?k10 ?a11 ?l11 ?c11 ?k11 ?a12 ?l12 ?c12 ?k12 ?a13 ?l13 ?c13 ?k13 ?z0 ?z1 ?z2 ?z3 ?z4 ?z5 ?z6 ?z7 ?z8 ?z9 ?z10 ?z11 ?mMOST_CYCLE ?mMOST_GREENS
    (case a0 => k_is)
    (case l0 => k_is)
    (case c0 => k_is)
    (case k0 => k_is)
    (case a1 => k_is)
    (case l1 => k_is)
    (case c1 => k_is)
    (case k1 => k_is)
    (case a2 => k_is)
    (case l2 => k_is)
    (case c2 => k_is)
    (case k2 => k_is)
    (case a3 => k_is)
    (case l3 => k_is)
    (case c3 => k_is)
    (case k3 => k_is)
    (case a4 => k_is)
    (case l4 => k_is)
    (case c4 => k_is)
    (case k4 => k_is)
    (case a5 => k_is)
    (case l5 => k_is)
    (case c5 => k_is)
    (case k5 => k_is)
    (case a6 => k_is)
    (case l6 => k_is)
    (case c6 => k_is)
    (case k6 => k_is)
    (case a7 => k_is)
    (case l7 => k_is)
    (case c7 => k_is)
    (case k7 => k_is)
    (case a8 => k_is)
    (case l8 => k_is)
    (case c8 => k_is)
    (case k8 => k_is)
    (case a9 => k_is)
    (case l9 => k_is)
    (case c9 => k_is)
    (case k9 => k_is)
    (case a10 => k_is)
    (case l10 => k_is)
    (case c10 => k_is)
    (case k10 => k_is)
    (case a11 => k_is)
    (case l11 => k_is)
    (case c11 => k_is)
    (case k11 => k_is)
    (case a12 => k_is)
    (case l12 => k_is)
    (case c12 => k_is)
    (case k12 => k_is)
    (case a13 => k_is)
    (case l13 => k_is)
    (case c13 => k_is)
    (case k13 => k_is)
    (case z0 => k_is)
    (case z1 => k_is)
    (case z2 => k_is)
    (case z3 => k_is)
    (case z4 => k_is)
    (case z5 => k_is)
    (case z6 => k_is)
    (case z7 => k_is)
    (case z8 => k_is)
    (case z9 => k_is)
    (case z10 => k_is)
    (case z11 => k_is)
    (case mMOST_CYCLE => k_is)
    (case mMOST_GREENS => k_is)
