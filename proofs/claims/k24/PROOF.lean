import PyProof.Rows.All
import Wide.All
import OpenK.AllK
import Wide.FinOn
import PyProof.EqAt
import PyProof.EqKinds
import PyProof.TupleCall
import HandS.ForMost
import HandS.Wide
import HandS.WideBits
import HandS.IsInst
import HandS.TupMul
import HandS.TupAny
import HandS.Style
import HandS.Conv
import HandS.Evl
import HandS.Rev
import HandS.SortRule
import PyProof.Rows.SortShell
import KE.KSortTup
import HandS.SortOrd
import KE.GoesEnum
import KE.GoesZip
import KE.GoesMore
import KE.KDictZip
import PyProof.ListNew
import HandS.Zip
import PyProof.LongRange
import HandS.Star
import HandS.Walk
import HandS.SetFor
import HandS.SortInts
import HandS.TupSets
import HandS.OwnEq
import HandS.SlotsOwn
import KE.KFmtOwn
import PyProof.InstEq
import HandS.List
import HandS.Deep
import PyProof.ReprLen
import PySem.Challenge.RW_greenroads_k24_fewest_windows_by_search
set_option Elab.async false
set_option linter.all false
set_option maxRecDepth 100000
set_option maxHeartbeats 2000000
/-! Defs under which no guard stands (so that repr of lists may be asked), and rules that the layer lacks. -/
namespace Gr
open PySem PySem.Spec PyProof.Rows L2

/-- no repr is under way around the call -/
abbrev Free (A : Around) : Prop := A.guards = some []
theorem Free.deep {A : Around} (h : Free A) (env : Env) : Free (A.deeper env) := h

structure FnG (P : Program) (w : World) (K : PySem.W.Frag) (mg : Str → Option Value) (base : Heap) (C : CXT) (k : Nat) (f : Addr) (fd : FuncData) (ps : List Str) (sp : Sp) : Prop where
  sized : ∀ xs G Z E, sp xs G Z E → xs.length = ps.length
  go : ∀ (A : Around) (envs : List Env) (st : Shared) (G : Hp) (ar : Args) (vals : List Value) (xs : List V) (Z : VK) (E : XK), Free A → Room k A → Env0 P w K mg base A envs st G →
    BindsTo st fd ar (ps.zip vals) → Vals xs vals → sp xs G Z E → codeAny (model P w) A (.call (.ref f) ar) (CR C envs P w G st Z E) st

section
variable {P : Program} {w : World} {K : PySem.W.Frag} {mg : Str → Option Value} {base : Heap} {C : CXT} {k : Nat} {f : Addr} {fd : FuncData} {ps : List Str} {sp : Sp}
theorem FnG.ofOk (F : FnOk P w K mg base C k f fd ps sp) : FnG P w K mg base C k f fd ps sp := ⟨F.len, fun A o st G ar vals xs Z E _ => F.run A o st G ar vals xs Z E⟩

theorem fnG_body {name qual : Str} {params : Arguments} {body : List Stmt} {sc : Scope} {dV kV doc pm cdv ct oc : Value} {an od : Option Addr} {osl : Array (Option Value)} {N : List Str}
    (lk : K.lookup f = some ⟨oc, od, .func (PySem.W.fnOf name qual params body sc dV kV doc pm an cdv ct), osl⟩) (hc : PySem.W.codeIn K cdv qual = true) (S : FnScope N ps sc) (sized : ∀ xs G Z E, sp xs G Z E → xs.length = ps.length)
    (hb : ∀ (A : Around) (envs : List Env) (st : Shared) (G : Hp) (xs : List V) (Z : VK) (E : XK), Free A → Room k (A.deeper (envOfC qual sc st.heap.objs.size f cdv)) → sp xs G Z E →
      ∃ t, PSs (cxOf C P w K mg base N qual sc f cdv A envs st G E) body t ∧ t { nx := fun _ G' => Z .non G', rt := Z } (start N xs) G) :
    FnG P w K mg base C (k + 1) f (PySem.W.fnOf name qual params body sc dV kV doc pm an cdv ct) ps sp where
  sized := sized
  go := by
    intro A envs st G ar vals xs Z E hf room e0 bt rv want
    have kin : K.In st.heap := e0.mod.kin.keeps (fun b o q => (e0.bs b o q).1)
    have nl : st.heap.NoLimit := e0.mod.nolimit.keeps (fun b o q => (e0.bs b o q).1)
    have kinds : ∀ q ∈ ps.zip vals, sc.names.lookup q.1 = some .local ∨ (sc.names.lookup q.1 = some .cell ∧ ((cellsFrom (st.heap.objs.size + 1) sc.names []).lookup q.1).isSome = true) := by
      rintro ⟨n, v⟩ hq
      cases S.par n (List.of_mem_zip hq).1 with
      | inl h => exact Or.inl h
      | inr h => exact Or.inr ⟨h, PySem.W.cellsFrom_some _ _ _ (Or.inl h)⟩
    apply codeAny_call_function room.depth (kin _ _ lk) rfl S.co S.gen rfl (PySem.W.codeRec_of kin hc)
    apply bt
    apply wpAny_newFunctionEnv_cells S.kind kinds
    intro env he s1 x
    cases he
    refine ⟨nl.keeps x.toInCall.keep, codeAny_func ?_⟩
    obtain ⟨t, ht, hq⟩ := hb A envs st G xs Z E hf (room.deeper _) want
    have J0 : Inv (cxOf C P w K mg base N qual sc f cdv A envs st G E) [] (start N xs) G s1 := inv_start S room.hd e0 (sized _ _ _ _ want) rv x
    apply wpAny_mono (ht.run [] s1 (start N xs) G _ J0 hq) _ (fun _ _ h => h)
    intro fl s2 hs
    cases fl with
    | ret u =>
      obtain ⟨v, τ, G2, J, r2, q2⟩ := hs
      exact ⟨v, G2, J.os, J.bare, J.base, J.hok, r2, q2⟩
    | next =>
      obtain ⟨τ, G2, J, q2⟩ := hs
      exact ⟨.non, G2, J.os, J.bare, J.base, J.hok, rfl, q2⟩
    | brk => exact (hs.elim fun _ h => h.elim fun _ h => h.2).elim
    | cont => exact (hs.elim fun _ h => h.elim fun _ h => h.2).elim

/-- a def by its body, guards known -/
theorem okG {x qual : Str} {st : Stmt} {N : List Str} (F : Fun K x qual st f fd) (S : FnScope N ps (defScope st)) (sized : ∀ xs G Z E, sp xs G Z E → xs.length = ps.length)
    (hb : ∀ (cdv : Value) (A : Around) (envs : List Env) (s : Shared) (G : Hp) (xs : List V) (Z : VK) (E : XK), Free A → Room k (A.deeper (envOfC qual (defScope st) s.heap.objs.size f cdv)) → sp xs G Z E →
      ∃ t, PSs (cxOf CX0 P w K mg base N qual (defScope st) f cdv A envs s G E).nox (defBody st) t ∧ t { nx := fun _ G' => Z .non G', rt := Z } (start N xs) G) : FnG P w K mg base CX0 (k + 1) f fd ps sp := by
  obtain ⟨oc, od, kV, doc, pm, an, cdv, ct, osl, rfl, lk, hcd⟩ := F.ex
  apply fnG_body lk hcd S sized
  intro A envs s G xs Z E hf hr hs
  obtain ⟨t, h, q⟩ := hb cdv A envs s G xs Z E hf hr hs
  exact ⟨t, h.nox, q⟩
end

section
variable {X : Cx} {C : CXT} {k : Nat} {f : Addr} {fd : FuncData} {ps : List Str} {sp : Sp} {dvs : List V} {ds : List Value} {E : XK} {x : Str} {p pos : Pos} {e : Expr} {es : List Expr} {t : TA}
theorem pe_callG (F : FnG X.prog X.w X.K X.mg X.base C k f fd ps sp) (hf : Free X.A) (hr : Room k X.A) (hg : Gl X x) (hm : X.mg x = some (.ref f)) (hk : PySem.W.keepIn X.K (.ref f) = true) (hb : Binds X.K fd ps ds) (hd : Vals dvs ds)
    (hx : Passes C X E) (ha : PA X (e :: es) t) (hdb : (x == ("__debug__" : Str)) = false := by decide) (he : starEach (e :: es) X.env = (false, eval e X.env) :: starEach es X.env := by rfl)
    (hpl : (backTo pos (starEach es X.env)).any (·.1) = false := by rfl) : PE X (.Call (.Name x p) (e :: es) [] pos) (tCall sp dvs E t) where
  run := by
    intro pins s σ H Q I h
    apply wpAny_Call_Name_kw
    apply ld_glob I hg hm _ hdb
    apply PySem.W.callWith_K (h₀ := X.base) I.ok.mod.kin hk _ he hpl
    apply thn (ha.run pos pins s σ H _ I h)
    rintro us s1 ⟨vs, H1, I1, r, q⟩
    have both : Vals (vs ++ dvs) (us ++ ds) := r.append hd
    have many : (us ++ ds).length = ps.length := both.length.symm.trans (F.sized _ _ _ _ q)
    refine ⟨I1.kIn, wpAny_call (codeAny_mono (F.go X.A X.stack s1 H1 ⟨us, []⟩ (us ++ ds) (vs ++ dvs) Q E hf hr I1.env0 (hb s1 us I1.kIn many) both q) ?_)⟩
    intro res s2 hq
    match res, hq with
    | .ok (.ret u), hq => exact I1.after hq
    | .error err, hq => exact hx pins σ H1 s1 err s2 I1 hq
end

/-! ### rules -/
section
variable {X : Cx}
def CPowW (i j : Int) : Prop := 0 ≤ j ∧ (Builtin.Int.intBits i : Int) * j ≤ 2 ^ 27
theorem op_powW : OpR X (binaryOp .Pow) (rI CPowW fun i j => .int (i ^ j.toNat)) := opI fun _ _ _ _ _ _ _ hc q => pow_int hc.1 hc.2 q
theorem bits_le {i : Int} {n : Nat} (h : i.natAbs < 2 ^ n) (h0 : 0 < n) : Builtin.Int.intBits i ≤ n := by
  have a := PySem.Flt.log2_lt_of h0 h
  unfold Builtin.Int.intBits
  split <;> omega
theorem cube_ok {i : Int} (h : i.natAbs < 2 ^ 1000) : CPowW i 3 := by
  have a := bits_le h (by decide)
  exact ⟨by decide, by omega⟩

/-- repr of a list, a tuple, what lies in them -/
def rRepr (K : PySem.W.Frag) : List V → Hp → VK → Prop := fun xs H Q => ∃ (a : Addr) (d : PyData), xs = [.ref a] ∧ Dp K H (.ref a) d ∧ d.showable = true ∧ d.hasDict = false ∧ d.depth ≤ 40 ∧ d.shown.length ≤ sizeLine ∧ Q (.str d.shown) H
theorem call_reprD (hf : Free X.A) (hu : X.A.units + 64 < cLine) : CallR X (.builtin "repr") (rRepr X.K) := by
  rintro pins s σ H xs us Q I r ⟨a, d, rfl, hD, hs, hd, h20, hz, q⟩
  obtain ⟨u, rfl, hr⟩ := vals1 r
  cases (show u = Value.ref a from hr)
  obtain ⟨as, rd⟩ := Dp.reads I d (.ref a) (.ref a) hD rfl
  exact repr_of_reads' rd hs (fun e => by rw [hd] at e; cases e) hf (by omega) (fun _ _ e => e) (fun h' u tk hk => ⟨.str d.shown, H, I.kept hk, ⟨u, rfl⟩, q⟩) hz
end

/-! ### the law's own call -/
section
variable {P : Program} {w : World} {K : PySem.W.Frag} {mg mb : Str → Option Value} {k : Nat} {fa a : Addr} {fd : FuncData} {x : Str} {sp : Sp} {st : Shared} {vs : List Value} {ns : List Int}
/-- behind the top: the heap with what G tracks hidden is a module's base -/
theorem base_mod {G : Hp} (kin : K.In st.heap) (hg : st.heap.Ns mainGlobals mg) (hb : st.heap.Ns builtinsNs mb) (hbb : ∀ y : Str, y ≠ "__name__" → mb y = bootBuiltins y) (nl : st.heap.NoLimit)
    (notD : ∀ b o es ep, st.heap.get? b = some o → o.data = .dict es ep → G b = none) (notK : ∀ b o, K.lookup b = some o → G b = none) :
    K.In (hidT st.heap G) ∧ (hidT st.heap G).Ns mainGlobals mg ∧ Mod K mg (hidT st.heap G) := by
  have nsH : ∀ {b : Addr} {m : Str → Option Value}, st.heap.Ns b m → (hidT st.heap G).Ns b m := by
    rintro b m ⟨o, es, ep, e, d, rest⟩
    exact ⟨o, es, ep, hidT_get e (notD b o es ep e d), d, rest⟩
  have kH : K.In (hidT st.heap G) := fun b o e => hidT_get (kin b o e) (notK b o e)
  obtain ⟨mc, c1, c2⟩ := nl
  exact ⟨kH, nsH hg, kH, nsH hg, ⟨mb, nsH hb, hbb⟩, mc, nsH c1, c2⟩

theorem law_run {G : Hp} (bm : K.In (hidT st.heap G) ∧ (hidT st.heap G).Ns mainGlobals mg ∧ Mod K mg (hidT st.heap G)) (no : st.gens = #[]) (only : Only G) (sq : SqL K G a (ns.map V.int)) (ok : HOk P w G st.heap) (room : Room k callerA)
    (F : ∀ base : Heap, K.In base → base.Ns mainGlobals mg → FnG P w K mg base CX0 k fa fd [x] sp) (bt : ∀ (s : Shared) (u : Value), BindsTo s fd ⟨[u], []⟩ [(x, u)])
    (want : sp [.ref a] G (fun v _ => v = .bl true) fun _ _ _ => False) :
    codeAny (model P w) callerA (.call (.ref fa) ⟨[.ref a], []⟩) (fun r s2 => r = .ok (.ret (.bool true)) ∧ OldK st.heap s2.heap ∧ s2.os = st.os ∧ AllBare s2.gens) st := by
  obtain ⟨b1, b2, b3⟩ := bm
  have e0 : Env0 P w K mg (hidT st.heap G) callerA [] st G :=
    { frames := rfl, mod := b3, bs := fun b o e => of_hidT e, bsz := Nat.le_of_eq (hidT_size _ _), funs := trivial, frf := fun b h => (List.not_mem_nil (show b ∈ ([] : List Addr) from h)).elim, hok := ok, bare := .of_eq no }
  apply codeAny_mono ((F _ b1 b2).go callerA [] st G ⟨[.ref a], []⟩ [.ref a] [.ref a] _ _ rfl room e0 (bt st (.ref a)) (.cons rfl .nil) want)
  intro r s2 h
  match r, h with
  | .ok (.ret u), h =>
    obtain ⟨v, G2, os, bare, un, ok2, rv, q⟩ := h
    cases (show v = .bl true from q)
    cases (show u = Value.bool true from rv)
    refine ⟨rfl, OldK.of_keep (fun b o e => ?_), os, bare⟩
    rcases only b with z | ⟨ob, xs, z⟩
    · exact un.keep b o e z (fun h => (List.not_mem_nil (show b ∈ ([] : List Addr) from h)).elim) (by simp)
    · have e1 := (ok b _ z).1
      have e2 := (ok2 b _ (un.frzs b ob _ z)).1
      rw [e] at e1
      cases e1
      exact e2

theorem law_callG (kin : K.In st.heap) (hg : st.heap.Ns mainGlobals mg) (hb : st.heap.Ns builtinsNs mb) (hbb : ∀ y : Str, y ≠ "__name__" → mb y = bootBuiltins y) (nl : st.heap.NoLimit) (no : st.gens = #[])
    (ha : st.heap.get? a = some { cls := .type "list", data := .seq vs.toArray }) (hi : IntsAre vs ns) (hl : ns.length ≤ sizeLine) (room : Room k callerA)
    (F : ∀ base : Heap, K.In base → base.Ns mainGlobals mg → FnG P w K mg base CX0 k fa fd [x] sp) (bt : ∀ (s : Shared) (u : Value), BindsTo s fd ⟨[u], []⟩ [(x, u)])
    (want : ∀ G : Hp, Only G → SqL K G a (ns.map V.int) → sp [.ref a] G (fun v _ => v = .bl true) fun _ _ _ => False) :
    codeAny (model P w) callerA (.call (.ref fa) ⟨[.ref a], []⟩) (fun r s2 => r = .ok (.ret (.bool true)) ∧ OldK st.heap s2.heap ∧ s2.os = st.os ∧ AllBare s2.gens) st := by
  have rv := vals_ints hi
  cases hk : K.lookup a with
  | some o =>
    have e := kin a o hk
    rw [ha] at e
    cases e
    have sq : SqL K (fun _ => none) a (ns.map V.int) := Or.inr ⟨_, vs.toArray, _, hk, rfl, rfl, rfl, by rw [List.size_toArray, hi.length]; exact hl, by simpa using rv⟩
    exact law_run (G := fun _ => none) (base_mod kin hg hb hbb nl (fun _ _ _ _ _ _ => rfl) fun _ _ _ => rfl) no (fun _ => Or.inl rfl) sq (fun b u z => nomatch (show (none : Option HO) = some u from z)) room F bt (want _ (fun _ => Or.inl rfl) sq)
  | none =>
    have at1 : (fun b => if b = a then some (HO.frz { cls := .type "list", data := .seq vs.toArray } (.lst (ns.map V.int))) else none : Hp) a = some (HO.frz { cls := .type "list", data := .seq vs.toArray } (.lst (ns.map V.int))) := if_pos rfl
    generalize hG : (fun b => if b = a then some (HO.frz { cls := .type "list", data := .seq vs.toArray } (.lst (ns.map V.int))) else none : Hp) = G at at1
    have at0 : ∀ b, b ≠ a → G b = none := fun b hb => by rw [← hG]; exact if_neg hb
    have sq : SqL K G a (ns.map V.int) := Or.inl (Or.inr ⟨_, at1⟩)
    have only : Only G := fun b => by
      by_cases hb : b = a
      · exact Or.inr ⟨_, _, hb ▸ at1⟩
      · exact Or.inl (at0 b hb)
    refine law_run (base_mod kin hg hb hbb nl (fun b o es ep e d => ?_) fun b o e => ?_) no only sq (fun b u z => ?_) room F bt (want _ only sq)
    · by_cases hb : b = a
      · rw [hb, ha] at e
        cases e
        cases (show Data.seq vs.toArray _ = Data.dict es ep from d)
      · exact at0 b hb
    · exact at0 b (fun hb => by rw [hb, hk] at e; cases e)
    · by_cases hb : b = a
      · subst hb
        rw [at1] at z
        cases z
        exact ⟨ha, by rw [List.length_map]; exact hl, vs, _, rv, ha⟩
      · rw [at0 b hb] at z
        cases z
end

theorem walkG {l : PySem.W.OpenLaw} {n k : Nat} {q : Program} {loose : List Str} {XP : (Str → Option Value) → Heap → Prop} {YP : World → Heap → Prop} {d : DefRec} {K : Params → PySem.W.Frag} {sp : PySem.W.Frag → Sp} {x : Str}
    (hn : l.most = some n) (hn2 : n ≤ sizeLine) (hdf : d.params.defaults = []) (hr : Room k callerA) (hY : ∀ (w : World) (h : Heap), YP w h → (K w.params).In h)
    (F : ∀ (w : World) (mg : Str → Option Value) (fa : Addr) (h : Heap), (K w.params).In h → h.Ns mainGlobals mg → mg d.name = some (.ref fa) →
      ∃ fd : FuncData, (∀ (s : Shared) (u : Value), BindsTo s fd ⟨[u], []⟩ [(x, u)]) ∧ ∀ base : Heap, (K w.params).In base → base.Ns mainGlobals mg → FnG l.prog w (K w.params) mg base CX0 k fa fd [x] (sp (K w.params)))
    (hsp : ∀ (K : PySem.W.Frag) (G : Hp) (a : Addr) (ns : List Int), ns.length ≤ n → Only G → SqL K G a (ns.map V.int) → sp K [.ref a] G (fun v _ => v = .bl true) fun _ _ _ => False) :
    PySem.W.WalkO q loose XP YP l.row.toRowW d [] (fun f vs => PySem.call f vs) := by
  apply Att.attach_call hn hdf
  intro w s₀ s₁ mg mb fa o pm cd doc a vs ns G Y ho hd hcd hmg hobj hints hlen hg
  have kin := hY w _ Y
  obtain ⟨fd, hb, hF⟩ := F w mg fa _ kin G.T.g hmg
  exact law_callG kin G.T.g G.T.b G.T.builtins G.T.nolimit hg hobj hints (Nat.le_trans hlen hn2) hr hF hb (fun H hO hS => hsp (K w.params) H a ns hlen hO hS)
end Gr

set_option Elab.async false
set_option linter.all false
set_option maxRecDepth 100000
set_option maxHeartbeats 4000000
/-! t[::-1] of a tuple, repr of what is no object. -/
namespace Gr
open PySem PySem.Spec PyProof.Rows L2 HT
section
variable {prog : Program} {w : World} {A : Around} {E : Value → Shared → Prop} {s : Shared}
theorem back_places (n : Nat) : Builtin.Slice.slicePlaces ((n : Int) - 1) (-1) (-1) = n := by
  unfold Builtin.Slice.slicePlaces
  rw [if_neg (by decide)]
  by_cases h : (n : Int) - 1 > -1
  · rw [if_pos h]
    simp only [Int.neg_neg, Int.ediv_one]
    omega
  · rw [if_neg h]; omega
theorem back_applied {sl : Addr} {n : Nat} {t : Tok} {Q : Int × Int × Nat → Shared → Prop} (hs : s.heap.IsSliceOf sl .none .none (.int (-1) t)) (h : Q ((n : Int) - 1, -1, n) s) :
    wpAny (model prog w) A (Builtin.Slice.sliceApplied (.ref sl) (pure (n : Int))) Q E s := by
  obtain ⟨os, e1, e2, e3⟩ := id hs
  unfold Builtin.Slice.sliceApplied Builtin.Slice.sliceFields
  apply wpAny_bind
  apply wpAny_bind
  refine wpAny_field e1 e3 (x := .none) rfl ?_
  apply wpAny_bind
  refine wpAny_field e1 e3 (x := .none) rfl ?_
  apply wpAny_bind
  refine wpAny_field e1 e3 (x := .int (-1) t) rfl (wpAny_pure ?_)
  refine wpAny_bind (slicePart_int ?_)
  show wpAny _ _ (if ((-1 : Int) == 0) = true then _ else _) _ _ s
  rw [if_neg (by decide)]
  apply wpAny_bind
  apply slicePart_none
  apply wpAny_bind
  apply slicePart_none
  refine wpAny_bind (wpAny_pure ?_)
  show wpAny _ _ (pure ((n : Int) - 1, (-1 : Int), Builtin.Slice.slicePlaces ((n : Int) - 1) (-1) (-1))) _ _ s
  rw [back_places]
  exact wpAny_pure h
theorem fm_congr {α β : Type} {f g : α → Option β} : ∀ {l : List α}, (∀ x ∈ l, f x = g x) → l.filterMap f = l.filterMap g
  | [], _ => rfl
  | a :: r, h => by
    rw [List.filterMap_cons, List.filterMap_cons, h a List.mem_cons_self, fm_congr fun x hx => h x (List.mem_cons_of_mem _ hx)]
theorem back_pick (xs : Array Value) : ((List.range xs.size).filterMap fun (m : Nat) => xs[(((xs.size : Int) - 1) + (m : Int) * (-1)).toNat]?).toArray = xs.toList.reverse.toArray := by
  congr 1
  have key : ∀ m ∈ List.range xs.size, xs[(((xs.size : Int) - 1) + (m : Int) * (-1)).toNat]? = xs.toList.reverse[m]? := by
    intro m hm
    have hm' : m < xs.size := List.mem_range.mp hm
    rw [List.getElem?_reverse (by simpa using hm')]
    have e : (((xs.size : Int) - 1) + (m : Int) * (-1)).toNat = xs.toList.length - 1 - m := by
      rw [Array.length_toList]; omega
    rw [e, Array.getElem?_toList]
  rw [fm_congr key]
  have : ∀ l : List Value, (List.range l.length).filterMap (fun m => l[m]?) = l := by
    intro l
    induction l with
    | nil => rfl
    | cons a r ih =>
      rw [List.length_cons, List.range_succ_eq_map, List.filterMap_cons]
      show a :: _ = _
      rw [List.filterMap_map]
      exact congrArg (a :: ·) ih
  have z := this xs.toList.reverse
  rw [List.length_reverse, Array.length_toList] at z
  exact z
theorem getItem_tuple_back {t sl : Addr} {items : Array Value} {u : Tok} {Q : Value → Shared → Prop} (ht : IsTup s.heap t items) (hs : s.heap.IsSliceOf sl .none .none (.int (-1) u))
    (h : Q (.ref s.heap.objs.size) { s with heap := s.heap.push { cls := .type "tuple", data := .seq items.toList.reverse.toArray } }) (hsz : items.size ≤ sizeLine) : wpAny (model prog w) A (getItem (.ref t) (.ref sl)) Q E s := by
  have ok : sizeOk (.seq items.toList.reverse.toArray) := by
    show items.toList.reverse.toArray.size ≤ sizeLine
    rw [List.size_toArray, List.length_reverse, Array.length_toList]
    exact hsz
  obtain ⟨os, e1, e2, e3⟩ := id hs
  have tS : s.TypeIs (.ref sl) "slice" := ⟨os, e1, e2⟩
  unfold getItem
  try with_reducible refine wpAny_holding ?_
  first | refine wpAny_bind (wpAny_pure ?_) | skip
  apply wpAny_bind
  apply wpAny_sequenceKey ht.typeIs (by decide)
  apply wpAny_bind
  refine wpAny_callSpecial?_slot (name := Str.ofString "__getitem__") ht.typeIs PyProof.Rows.slot_tuple_getitem ?_
  refine wpAny_call_entry PyProof.Rows.slot_tuple_getitem ht.typeIs entry_tuple_getitem ?_ (args_tuple_getitem _ _)
  show wpAny _ _ (Builtin.Tuple.tupleItemsOf (.ref t) >>= _) _ _ s
  apply wpAny_bind
  apply tupleItemsOf_ ht
  apply wpAny_bind
  apply wpAny_typeOf tS
  rw [if_pos (by decide)]
  apply wpAny_bind
  apply back_applied hs
  have no : ¬ ((((items.size : Int) - 1) == 0 && (-1 : Int) == 1 && items.size == items.size) = true) := by
    rw [show ((-1 : Int) == 1) = false from rfl, Bool.and_false, Bool.false_and]
    exact Bool.false_ne_true
  show wpAny _ _ (if (((items.size : Int) - 1) == 0 && (-1 : Int) == 1 && items.size == items.size) = true then _ else _) _ _ s
  rw [if_neg no, back_pick]
  first
    | exact wpAny_bind (m := Builtin.Tuple.tupleExact _) (wpAny_newObj_type (wpAny_pure ⟨_, rfl, wpAny_pure h⟩) ok)
    | exact wpAny_bind (m := Builtin.Tuple.tupleExact _) (wpAny_newObj_type (wpAny_bind (wpAny_pure (wpAny_pure ⟨_, rfl, wpAny_pure h⟩))) ok)
    | exact wpAny_bind (wpAny_bind (m := Builtin.Tuple.tupleExact _) (wpAny_newObj_type (wpAny_pure (wpAny_pure ⟨_, rfl, wpAny_pure h⟩)) ok))
    | exact wpAny_bind (wpAny_bind (m := Builtin.Tuple.tupleExact _) (wpAny_newObj_type (wpAny_pure ⟨_, rfl, wpAny_pure h⟩) ok))
end
section
variable {X : Cx}
/-- t[::-1] -/
def tRevT (K : PySem.W.Frag) (te : TE) : TE := fun σ H Q => te σ H fun x H1 => ∃ a xs, x = .ref a ∧ SqT K H1 a xs ∧ ∀ p, H1 p = none → Q (.ref p) (upd H1 p (.tup xs.reverse))
theorem pe_revT {e : Expr} {te : TE} {k : Nat} {p1 p2 p3 pos : Pos} (he : PE X e te) : PE X (.Subscript e (.Slice none none (some (.UnaryOp .USub (.Constant (.int 1) k p1) p2)) p3) pos) (tRevT X.K te) where
  run := by
    intro pins s σ H Q I h
    apply Subscript_
    refine thn (he.run pins s σ H _ I h) ?_
    rintro v s1 ⟨x, H1, I1, r1, a, xs, rfl, hx, q⟩
    cases r1
    have step : PO X (some (.UnaryOp .USub (.Constant (.int 1) k p1) p2)) (tPart (tUn (rU fun i => .int (-i)) (tC (.int 1)))) := po_some (pe_un un_neg pe_int)
    apply wpAny_Slice
    refine thn (po_none.run pins s1 σ H1 (fun o G => o = none ∧ G = H1) I1 ⟨rfl, rfl⟩) ?_
    rintro vl s2 ⟨_, G2, I2, pl, rfl, g2⟩
    rw [g2] at I2
    refine thn (po_none.run pins s2 σ H1 (fun o G => o = none ∧ G = H1) I2 ⟨rfl, rfl⟩) ?_
    rintro vu s3 ⟨_, G3, I3, pu, rfl, g3⟩
    rw [g3] at I3
    refine thn (step.run pins s3 σ H1 (fun o G => o = some (-1) ∧ G = H1) I3 ⟨1, rfl, -1, rfl, rfl, rfl⟩) ?_
    rintro vs s4 ⟨_, G4, I4, ps, rfl, g4⟩
    rw [g4] at I4
    cases pl
    cases pu
    cases ps with
    | int i t =>
      have I5 : Inv X pins σ H1 { s4 with heap := s4.heap.push { cls := .type "slice", data := .fields #[.none, .none, .int (-1) t] } } := I4.kept (t' := s4.toks) fun b ob q => Heap.get?_push_of_some _ q
      obtain ⟨its, r, ht, hz⟩ := I5.tuple hx
      have hlen : its.toArray.size = xs.length := by rw [List.size_toArray]; exact r.length.symm
      show wpAny (model X.prog X.w) X.A (subscriptTail e (.Slice none none (some (.UnaryOp .USub (.Constant (.int 1) k p1) p2)) p3) (.ref a) (.ref s4.heap.objs.size)) (EP X pins σ Q) X.xe { s4 with heap := s4.heap.push { cls := .type "slice", data := .fields #[.none, .none, .int (-1) t] } }
      refine tail_any (ops := [.ref a, .ref s4.heap.objs.size]) ht.typeIs (PyProof.Rows.slot_tuple_getitem.lookup) ?_ (by with_unfolding_all rfl)
      refine getItem_tuple_back ht (Heap.IsSliceOf.new _ .none .none (.int (-1) t)) ?_ (by rw [hlen]; exact hz)
      refine ⟨.ref _, _, I5.laid (t' := s4.toks) (o := .tup xs.reverse) (fun b ob q => Heap.get?_push_of_some _ q) (Nat.le_refl _) ?_, rfl, q _ (I5.hok.fresh (Nat.le_refl _))⟩
      exact ⟨by rw [List.length_reverse]; exact hz, its.toArray.toList.reverse, by simpa using r.reverse, IsTup.new _ _⟩

/-- repr of an object, a truth, None, an int -/
def rReprA (K : PySem.W.Frag) : List V → Hp → VK → Prop := fun xs H Q => ∃ (x : V) (d : PyData), xs = [x] ∧ Dp K H x d ∧ d.showable = true ∧ d.hasDict = false ∧ d.depth ≤ 40 ∧ d.shown.length ≤ sizeLine ∧ (∀ y, x ≠ .str y) ∧ Q (.str d.shown) H
theorem call_reprA (hf : Free X.A) (hu : X.A.units + 64 < cLine) : CallR X (.builtin "repr") (rReprA X.K) := by
  rintro pins s σ H xs us Q I r ⟨x, d, rfl, hD, hs, hd, h20, hz, hy, q⟩
  obtain ⟨u, rfl, hr⟩ := vals1 r
  cases hD with
  | non =>
    cases (show u = Value.none from hr)
    exact PySem.P.repr_of_none ⟨.str _, H, I.tok _, ⟨_, rfl⟩, by simpa [PyData.shown] using q⟩
  | bl b =>
    cases (show u = Value.bool b from hr)
    exact PySem.P.repr_of_bool ⟨.str _, H, I.tok _, ⟨_, rfl⟩, by simpa [PyData.shown] using q⟩
  | int i =>
    obtain ⟨t, rfl⟩ := (show ∃ t, u = Value.int i t from hr)
    exact PySem.P.repr_of_int (by simpa [PyData.showable] using hs) ⟨.str _, H, I.tok _, ⟨_, rfl⟩, by simpa [PyData.shown] using q⟩
  | str y => exact absurd rfl (hy y)
  | @lst a ys ds h1 h2 => exact call_reprD hf hu pins s σ H [.ref a] [u] Q I r ⟨a, _, rfl, .lst h1 h2, hs, hd, h20, hz, q⟩
  | @tup a ys ds h1 h2 => exact call_reprD hf hu pins s σ H [.ref a] [u] Q I r ⟨a, _, rfl, .tup h1 h2, hs, hd, h20, hz, q⟩
end
end Gr

set_option Elab.async false
set_option linter.all false
set_option pp.deepTerms false
set_option pp.maxSteps 3000
set_option maxRecDepth 100000
set_option maxHeartbeats 4000000
namespace Gr
open PySem PySem.Spec PyProof.Rows L2
def topS (i : Nat) : Stmt := PySem.Challenge.pw_greenroads_k24_fewest_windows_by_search.main.body.getD i (.Pass ⟨0, 0, 0, 0⟩)
abbrev s_is_whole : Stmt := topS 12
theorem scis_whole : FnScope ["value"] ["value"] (defScope s_is_whole) := ⟨rfl, rfl, rfl, by decide +kernel, rfl, by decide +kernel, by decide +kernel⟩
abbrev s_check_cycle : Stmt := topS 13
theorem sccheck_cycle : FnScope ["cycle"] ["cycle"] (defScope s_check_cycle) := ⟨rfl, rfl, rfl, by decide +kernel, rfl, by decide +kernel, by decide +kernel⟩
abbrev s_check_moment : Stmt := topS 14
theorem sccheck_moment : FnScope ["moment"] ["moment"] (defScope s_check_moment) := ⟨rfl, rfl, rfl, by decide +kernel, rfl, by decide +kernel, by decide +kernel⟩
abbrev s_is_run : Stmt := topS 16
theorem scis_run : FnScope ["value", "part"] ["value"] (defScope s_is_run) := ⟨rfl, rfl, rfl, by decide +kernel, rfl, by decide +kernel, by decide +kernel⟩
abbrev s_are_runs : Stmt := topS 17
theorem scare_runs : FnScope ["cycle", "value", "run", "before"] ["cycle", "value"] (defScope s_are_runs) := ⟨rfl, rfl, rfl, by decide +kernel, rfl, by decide +kernel, by decide +kernel⟩
abbrev s_goes_on : Stmt := topS 18
theorem scgoes_on : FnScope ["before", "run"] ["before", "run"] (defScope s_goes_on) := ⟨rfl, rfl, rfl, by decide +kernel, rfl, by decide +kernel, by decide +kernel⟩
abbrev s_joins : Stmt := topS 19
theorem scjoins : FnScope ["before", "run"] ["before", "run"] (defScope s_joins) := ⟨rfl, rfl, rfl, by decide +kernel, rfl, by decide +kernel, by decide +kernel⟩
abbrev s_last_arrival : Stmt := topS 20
theorem sclast_arrival : FnScope ["run", "first", "last", "arrival"] ["run"] (defScope s_last_arrival) := ⟨rfl, rfl, rfl, by decide +kernel, rfl, by decide +kernel, by decide +kernel⟩
abbrev s_moved : Stmt := topS 21
theorem scmoved : FnScope ["run", "ticks", "moment"] ["run", "ticks"] (defScope s_moved) := ⟨rfl, rfl, rfl, by decide +kernel, rfl, by decide +kernel, by decide +kernel⟩
abbrev s_ascending : Stmt := topS 22
theorem scascending : FnScope ["cycle", "rows", "row"] ["cycle", "rows"] (defScope s_ascending) := ⟨rfl, rfl, rfl, by decide +kernel, rfl, by decide +kernel, by decide +kernel⟩
abbrev s_run_pairs : Stmt := topS 23
theorem scrun_pairs : FnScope ["cycle", "runs", "earlier"] ["cycle", "runs"] (defScope s_run_pairs) := ⟨rfl, rfl, rfl, by decide +kernel, rfl, by decide +kernel, by decide +kernel⟩
abbrev s_longest_runs : Stmt := topS 24
theorem sclongest_runs : FnScope ["cycle", "runs", "joined", "first", "last", "arrival", "begin", "_", "early", "end"] ["cycle", "runs"] (defScope s_longest_runs) := ⟨rfl, rfl, rfl, by decide +kernel, rfl, by decide +kernel, by decide +kernel⟩
abbrev s_place_of : Stmt := topS 25
theorem scplace_of : FnScope ["cycle", "runs", "start", "ticks", "low", "high", "middle"] ["cycle", "runs", "start"] (defScope s_place_of) := ⟨rfl, rfl, rfl, by decide +kernel, rfl, by decide +kernel, by decide +kernel⟩
abbrev s_arrival_by_run : Stmt := topS 26
theorem scarrival_by_run : FnScope ["run", "start", "first", "_", "arrival"] ["run", "start"] (defScope s_arrival_by_run) := ⟨rfl, rfl, rfl, by decide +kernel, rfl, by decide +kernel, by decide +kernel⟩
abbrev s_arrival_at : Stmt := topS 27
theorem scarrival_at : FnScope ["cycle", "runs", "start", "at", "ticks"] ["cycle", "runs", "start"] (defScope s_arrival_at) := ⟨rfl, rfl, rfl, by decide +kernel, rfl, by decide +kernel, by decide +kernel⟩
abbrev s_arrivals_at : Stmt := topS 28
theorem scarrivals_at : FnScope ["cycle", "runs", "starts", "walked", "arrivals", "at", "start"] ["cycle", "runs", "starts"] (defScope s_arrivals_at) := ⟨rfl, rfl, rfl, by decide +kernel, rfl, by decide +kernel, by decide +kernel⟩
abbrev s_runs_within : Stmt := topS 29
theorem scruns_within : FnScope ["cycle", "runs", "low", "high", "found", "at", "ticks", "first", "last", "arrival", "begin"] ["cycle", "runs", "low", "high"] (defScope s_runs_within) := ⟨rfl, rfl, rfl, by decide +kernel, rfl, by decide +kernel, by decide +kernel⟩
abbrev s_behind_runs : Stmt := topS 30
theorem scbehind_runs : FnScope ["cycle", "runs", "others", "found", "run", "after", "first", "last", "arrival", "end", "low", "high", "late"] ["cycle", "runs", "others"] (defScope s_behind_runs) := ⟨rfl, rfl, rfl, by decide +kernel, rfl, by decide +kernel, by decide +kernel⟩
abbrev s_stretches : Stmt := topS 31
theorem scstretches : FnScope ["cycle", "runs", "others", "edges", "run", "edge", "lows", "highs", "low", "rows", "row", "stretch"] ["cycle", "runs", "others"] (defScope s_stretches) := ⟨rfl, rfl, rfl, by decide +kernel, rfl, by decide +kernel, by decide +kernel⟩
abbrev s_parted : Stmt := topS 32
theorem scparted : FnScope ["stretch", "low", "high", "early", "late", "other_early", "other_late", "met", "cut", "behind", "other_behind"] ["stretch"] (defScope s_parted) := ⟨rfl, rfl, rfl, by decide +kernel, rfl, by decide +kernel, by decide +kernel⟩
abbrev s_runs_of_parts : Stmt := topS 33
theorem scruns_of_parts : FnScope ["cycle", "parts", "found", "reaches", "part", "low", "high", "early", "late", "reach", "first", "last"] ["cycle", "parts"] (defScope s_runs_of_parts) := ⟨rfl, rfl, rfl, by decide +kernel, rfl, by decide +kernel, by decide +kernel⟩
abbrev s_sooner_runs : Stmt := topS 34
theorem scsooner_runs : FnScope ["cycle", "runs", "others", "rows", "row"] ["cycle", "runs", "others"] (defScope s_sooner_runs) := ⟨rfl, rfl, rfl, by decide +kernel, rfl, by decide +kernel, by decide +kernel⟩
abbrev s_both_runs : Stmt := topS 35
theorem scboth_runs : FnScope ["cycle", "runs", "others", "rows", "row"] ["cycle", "runs", "others"] (defScope s_both_runs) := ⟨rfl, rfl, rfl, by decide +kernel, rfl, by decide +kernel, by decide +kernel⟩
abbrev s_P_init : Stmt := inClass (topS 37) 0
theorem scP_init : FnScope ["self", "cycle", "runs"] ["self", "cycle", "runs"] (defScope s_P_init) := ⟨rfl, rfl, rfl, by decide +kernel, rfl, by decide +kernel, by decide +kernel⟩
abbrev s_P_call : Stmt := inClass (topS 37) 1
theorem scP_call : FnScope ["self", "start"] ["self", "start"] (defScope s_P_call) := ⟨rfl, rfl, rfl, by decide +kernel, rfl, by decide +kernel, by decide +kernel⟩
abbrev s_P_add : Stmt := inClass (topS 37) 2
theorem scP_add : FnScope ["self", "other"] ["self", "other"] (defScope s_P_add) := ⟨rfl, rfl, rfl, by decide +kernel, rfl, by decide +kernel, by decide +kernel⟩
abbrev s_P_or : Stmt := inClass (topS 37) 3
theorem scP_or : FnScope ["self", "other"] ["self", "other"] (defScope s_P_or) := ⟨rfl, rfl, rfl, by decide +kernel, rfl, by decide +kernel, by decide +kernel⟩
abbrev s_P_and : Stmt := inClass (topS 37) 4
theorem scP_and : FnScope ["self", "other"] ["self", "other"] (defScope s_P_and) := ⟨rfl, rfl, rfl, by decide +kernel, rfl, by decide +kernel, by decide +kernel⟩
abbrev s_P_eq : Stmt := inClass (topS 37) 6
theorem scP_eq : FnScope ["self", "other"] ["self", "other"] (defScope s_P_eq) := ⟨rfl, rfl, rfl, by decide +kernel, rfl, by decide +kernel, by decide +kernel⟩
abbrev s_check_passage : Stmt := topS 38
theorem sccheck_passage : FnScope ["passage"] ["passage"] (defScope s_check_passage) := ⟨rfl, rfl, rfl, by decide +kernel, rfl, by decide +kernel, by decide +kernel⟩
abbrev s_check_pair : Stmt := topS 39
theorem sccheck_pair : FnScope ["one", "other"] ["one", "other"] (defScope s_check_pair) := ⟨rfl, rfl, rfl, by decide +kernel, rfl, by decide +kernel, by decide +kernel⟩
abbrev s_put_together : Stmt := topS 43
theorem scput_together : FnScope ["way", "one", "other"] ["way", "one", "other"] (defScope s_put_together) := ⟨rfl, rfl, rfl, by decide +kernel, rfl, by decide +kernel, by decide +kernel⟩
abbrev s_all_together : Stmt := topS 44
theorem scall_together : FnScope ["way", "passages", "pairs", "one", "other"] ["way", "passages"] (defScope s_all_together) := ⟨rfl, rfl, rfl, by decide +kernel, rfl, by decide +kernel, by decide +kernel⟩
abbrev s_is_window : Stmt := topS 46
theorem scis_window : FnScope ["cycle", "value", "part", "first", "last", "travel"] ["cycle", "value"] (defScope s_is_window) := ⟨rfl, rfl, rfl, by decide +kernel, rfl, by decide +kernel, by decide +kernel⟩
abbrev s_from_windows : Stmt := topS 47
theorem scfrom_windows : FnScope ["cycle", "windows", "row", "passages", "first", "last", "travel"] ["cycle", "windows"] (defScope s_from_windows) := ⟨rfl, rfl, rfl, by decide +kernel, rfl, by decide +kernel, by decide +kernel⟩
abbrev s_fewest_windows : Stmt := topS 48
theorem scfewest_windows : FnScope ["passage", "first", "_", "arrival"] ["passage"] (defScope s_fewest_windows) := ⟨rfl, rfl, rfl, by decide +kernel, rfl, by decide +kernel, by decide +kernel⟩
abbrev s_windows_of : Stmt := topS 49
theorem scwindows_of : FnScope ["cycle", "runs", "tops", "before", "run", "greatest", "at", "turned", "found", "begun", "first", "last", "arrival", "top", "travel", "goes_on", "window"] ["cycle", "runs"] (defScope s_windows_of) := ⟨rfl, rfl, rfl, by decide +kernel, rfl, by decide +kernel, by decide +kernel⟩
abbrev s_window_at_home : Stmt := topS 50
theorem scwindow_at_home : FnScope ["cycle", "window", "greatest", "first", "last", "travel"] ["cycle", "window", "greatest"] (defScope s_window_at_home) := ⟨rfl, rfl, rfl, by decide +kernel, rfl, by decide +kernel, by decide +kernel⟩
abbrev s_l_spring : Stmt := topS 52
theorem scl_spring : FnScope ["_law_script", "_law_k", "_law_cell"] ["_law_script", "_law_k"] (defScope s_l_spring) := ⟨rfl, rfl, rfl, by decide +kernel, rfl, by decide +kernel, by decide +kernel⟩
abbrev s_l_take : Stmt := topS 53
theorem scl_take : FnScope ["_law_spring_here", "_law_many", "_law_found", "_law_mixed"] ["_law_spring_here", "_law_many"] (defScope s_l_take) := ⟨rfl, rfl, rfl, by decide +kernel, rfl, by decide +kernel, by decide +kernel⟩
abbrev s_l_shares : Stmt := topS 54
theorem scl_shares : FnScope ["_law_spring_here", "_law_total", "_law_many", "_law_found", "_law_turn", "_law_spot"] ["_law_spring_here", "_law_total", "_law_many"] (defScope s_l_shares) := ⟨rfl, rfl, rfl, by decide +kernel, rfl, by decide +kernel, by decide +kernel⟩
abbrev s_l_rows : Stmt := topS 55
theorem scl_rows : FnScope ["_law_spring_here", "_law_cycle_here", "_law_many", "_law_begin", "_law_arrival", "_law_sizes", "_law_left", "_law_turn", "_law_room", "_law_starts_here", "_law_arrivals", "_law_found", "_law_spot", "_law_size_here"] ["_law_spring_here", "_law_cycle_here", "_law_many", "_law_begin", "_law_arrival"] (defScope s_l_rows) := ⟨rfl, rfl, rfl, by decide +kernel, rfl, by decide +kernel, by decide +kernel⟩
abbrev s_l_to : Stmt := topS 56
theorem scl_to : FnScope ["_law_cycle_here", "_law_rows_here", "_law_start", "_law_turns", "_law_by_here", "_law_first", "_law_last", "_law_arrival"] ["_law_cycle_here", "_law_rows_here", "_law_start"] (defScope s_l_to) := ⟨rfl, rfl, rfl, by decide +kernel, rfl, by decide +kernel, by decide +kernel⟩
abbrev s_l_by : Stmt := topS 57
theorem scl_by : FnScope ["_law_cycle_here", "_law_windows", "_law_start", "_law_found", "_law_first", "_law_last", "_law_travel", "_law_by_here"] ["_law_cycle_here", "_law_windows", "_law_start"] (defScope s_l_by) := ⟨rfl, rfl, rfl, by decide +kernel, rfl, by decide +kernel, by decide +kernel⟩
abbrev s_l_able : Stmt := topS 58
theorem scl_able : FnScope ["_law_cycle_here", "_law_table", "_law_found", "_law_first", "_law_last", "_law_travel", "_law_start", "_law_one", "_law_rows_here", "_law_met", "_law_sooner"] ["_law_cycle_here", "_law_table"] (defScope s_l_able) := ⟨rfl, rfl, rfl, by decide +kernel, rfl, by decide +kernel, by decide +kernel⟩
abbrev s_l_greatest : Stmt := topS 59
theorem scl_greatest : FnScope ["_law_sets", "_law_found", "_law_one"] ["_law_sets"] (defScope s_l_greatest) := ⟨rfl, rfl, rfl, by decide +kernel, rfl, by decide +kernel, by decide +kernel⟩
abbrev s_l_is_within : Stmt := topS 60
theorem scl_is_within : FnScope ["_law_one", "_law_sets", "_law_other", "_law_item"] ["_law_one", "_law_sets"] (defScope s_l_is_within) := ⟨rfl, rfl, rfl, by decide +kernel, rfl, by decide +kernel, by decide +kernel⟩
abbrev s_l_fewest : Stmt := topS 61
theorem scl_fewest : FnScope ["_law_sets", "_law_left", "_law_found", "_law_one", "_law_item"] ["_law_sets", "_law_left"] (defScope s_l_fewest) := ⟨rfl, rfl, rfl, by decide +kernel, rfl, by decide +kernel, by decide +kernel⟩
abbrev s_l_right : Stmt := topS 62
theorem scl_right : FnScope ["_law_spring_here", "_law_cycle_here", "_law_begin", "_law_rows_here", "_law_table", "_law_start", "_law_by_here", "_law_one", "_law_row", "_law_passage", "_law_told", "_law_window", "_law_sets"] ["_law_spring_here", "_law_cycle_here"] (defScope s_l_right) := ⟨rfl, rfl, rfl, by decide +kernel, rfl, by decide +kernel, by decide +kernel⟩
abbrev s_law : Stmt := topS 63
theorem sclaw : FnScope ["_law_script", "_law_k", "_law_spring_here", "_law_turn"] ["_law_script"] (defScope s_law) := ⟨rfl, rfl, rfl, by decide +kernel, rfl, by decide +kernel, by decide +kernel⟩
/-- what the text has at the top beside its defs -/
structure Blt (mg : Str → Option Value) (tMOST_CYCLE : Tok) : Prop where
  n_all : mg "all" = none
  n_bool : mg "bool" = none
  n_enumerate : mg "enumerate" = none
  n_int : mg "int" = none
  n_isinstance : mg "isinstance" = none
  len : mg "len" = none
  n_list : mg "list" = none
  n_max : mg "max" = none
  n_min : mg "min" = none
  range : mg "range" = none
  n_set : mg "set" = none
  n_sorted : mg "sorted" = none
  n_tuple : mg "tuple" = none
  n_zip : mg "zip" = none
  MOST_CYCLE : mg "MOST_CYCLE" = some (.int (10 ^ 30) tMOST_CYCLE)
  SOONER : ∃ t, mg "SOONER" = some (.str "{" t)
  BOTH : ∃ t, mg "BOTH" = some (.str "<" t)
/-- a def that stands under its name -/
structure Def (K : PySem.W.Frag) (mg : Str → Option Value) (x : Str) (st : Stmt) (ps : List Str) (f : Addr) (fd : FuncData) : Prop where
  F : Fun K x x st f fd
  g : mg x = some (.ref f)
  b : Binds K fd ps []
theorem Same.new {H : Hp} {p : Addr} {o : HO} (h : H p = none) : Same H (upd H p o) := fun b u e => by
  rw [upd_ne (ne_of_none e h)]; exact e

/-! ### the checks and is_green -/
def spWhole : Sp := fun vs H Q _ => ∃ i : Int, vs = [.int i] ∧ Q (.bl true) H
def spCycle : Sp := fun vs H Q _ => ∃ c : Int, vs = [.int c] ∧ 1 ≤ c ∧ c ≤ 10 ^ 30 ∧ Q .non H
def spMoment : Sp := fun vs H Q _ => ∃ c : Int, vs = [.int c] ∧ Q .non H
def pairB (c o l : Int) : Bool := decide (0 ≤ o) && decide (o < c) && decide (1 ≤ l) && decide (l ≤ c)
/-- what is_green_pair says of x -/
def PairK (H : Hp) (c : Int) (x : V) (b : Bool) : Prop :=
  (∃ a o l, x = .ref a ∧ H a = some (.tup [.int o, .int l]) ∧ b = pairB c o l) ∨ (∃ a ys, x = .ref a ∧ H a = some (.tup ys) ∧ ys.length ≠ 2 ∧ b = false) ∨ (∃ a ys, x = .ref a ∧ H a = some (.lst ys) ∧ b = false)
theorem PairK.mono {H H' : Hp} {c : Int} {x : V} {b : Bool} (s : Same H H') (h : PairK H c x b) : PairK H' c x b := by
  rcases h with ⟨a, o, l, e, h, k⟩ | ⟨a, ys, e, h, k⟩ | ⟨a, ys, e, h, k⟩
  · exact .inl ⟨a, o, l, e, s _ _ h, k⟩
  · exact .inr (.inl ⟨a, ys, e, s _ _ h, k⟩)
  · exact .inr (.inr ⟨a, ys, e, s _ _ h, k⟩)
def SigK (H : Hp) (c : Int) (x : V) (b : Bool) : Prop :=
  (∃ a ys, x = .ref a ∧ H a = some (.lst ys) ∧ b = false) ∨ (∃ a ys, x = .ref a ∧ H a = some (.tup ys) ∧ ¬ (1 ≤ ys.length ∧ ys.length ≤ 6) ∧ b = false) ∨
  (∃ a ys bs, x = .ref a ∧ H a = some (.tup ys) ∧ 1 ≤ ys.length ∧ ys.length ≤ 6 ∧ Paired (PairK H c) ys bs ∧ b = bs.all id)
def spPair : Sp := fun vs H Q _ => ∃ (x : V) (c : Int) (b : Bool), vs = [x, .int c] ∧ PairK H c x b ∧ Q (.bl b) H
def spSignal : Sp := fun vs H Q _ => ∃ (x : V) (c : Int) (b : Bool), vs = [x, .int c] ∧ 1 ≤ c ∧ c ≤ 10 ^ 30 ∧ SigK H c x b ∧ ∀ H', Same H H' → Q (.bl b) H'
def spChkSignal : Sp := fun vs H Q _ => ∃ (x : V) (c : Int), vs = [.int c, x] ∧ 1 ≤ c ∧ c ≤ 10 ^ 30 ∧ SigK H c x true ∧ ∀ H', Same H H' → Q .non H'
def GrAt (H : Hp) (x : V) (g : Int × Int) : Prop := ∃ b, x = .ref b ∧ H b = some (.tup [.int g.1, .int g.2])
def SigT (H : Hp) (a : Addr) (gs : List (Int × Int)) : Prop := ∃ xs, H a = some (.tup xs) ∧ Paired (GrAt H) xs gs
theorem SigT.mono {H H' : Hp} {a : Addr} {gs : List (Int × Int)} (s : Same H H') (h : SigT H a gs) : SigT H' a gs := by
  obtain ⟨xs, h1, h2⟩ := h
  exact ⟨xs, s _ _ h1, L2.Paired.mapP h2 fun x g ⟨b, e, h⟩ => ⟨b, e, s _ _ h⟩⟩
def OkG (c : Int) (gs : List (Int × Int)) : Prop := 1 ≤ gs.length ∧ gs.length ≤ 6 ∧ ∀ g ∈ gs, 0 ≤ g.1 ∧ g.1 < c ∧ 1 ≤ g.2 ∧ g.2 ≤ c
def lit (c : Int) (gs : List (Int × Int)) (m : Int) : Bool := gs.any fun g => decide ((m - g.1) % c < g.2)
def spGreen : Sp := fun vs H Q _ => ∃ (a : Addr) (c m : Int) (gs : List (Int × Int)), vs = [.int c, .ref a, .int m] ∧ 1 ≤ c ∧ c ≤ 10 ^ 30 ∧ SigT H a gs ∧ OkG c gs ∧ ∀ H', Same H H' → Q (.bl (lit c gs m)) H'

theorem paired_at {α β : Type} {R : α → β → Prop} : ∀ {xs : List α} {ys : List β} {i : Nat} {x : α}, Paired R xs ys → xs[i]? = some x → ∃ y, ys[i]? = some y ∧ R x y
  | _, _, _, _, .nil, e => by simp at e
  | _, _, 0, _, .cons r _, e => by simp at e; subst e; exact ⟨_, rfl, r⟩
  | _, _, i + 1, x, .cons _ t, e => by
    obtain ⟨u, h1, h2⟩ := paired_at (i := i) (x := x) t (by simpa using e)
    exact ⟨u, by simpa using h1, h2⟩
theorem paired_len {α β : Type} {R : α → β → Prop} : ∀ {xs : List α} {ys : List β}, Paired R xs ys → xs.length = ys.length
  | _, _, .nil => rfl
  | _, _, .cons _ t => congrArg (· + 1) (paired_len t)
/-- a signal is one by is_signal -/
theorem SigT.sigK {H : Hp} {a : Addr} {c : Int} {gs : List (Int × Int)} (h : SigT H a gs) (hl : 1 ≤ gs.length ∧ gs.length ≤ 6) : SigK H c (.ref a) (gs.all fun g => pairB c g.1 g.2) := by
  obtain ⟨xs, h1, h2⟩ := h
  have el := paired_len h2
  refine .inr (.inr ⟨a, xs, gs.map (fun g => pairB c g.1 g.2), rfl, h1, by omega, by omega, ?_, ?_⟩)
  · clear h1 el hl
    induction h2 with
    | nil => exact .nil
    | cons r t ih =>
      obtain ⟨b, e, h⟩ := r
      exact .cons (.inl ⟨b, _, _, e, h, rfl⟩) ih
  · rw [List.all_map]; rfl
theorem OkG.all {c : Int} {gs : List (Int × Int)} (h : OkG c gs) : (gs.all fun g => pairB c g.1 g.2) = true := by
  rw [List.all_eq_true]
  intro g hg
  have := h.2.2 g hg
  simp [pairB, this]

section
variable {P : Program} {w : World} {K : PySem.W.Frag} {mg : Str → Option Value} {base : Heap} {tC : Tok}
theorem ok_is_whole {f : Addr} {fd : FuncData} (B : Blt mg tC) (Dis_whole : Def K mg "is_whole" s_is_whole ["value"] f fd) : FnOk P w K mg base CX0 1 f fd ["value"] spWhole := by
  refine Dis_whole.F.ok scis_whole (fun vs H Q E h => ?_) (fun cdv A outer s H vs Q E hr h => ⟨_, (pss_one (ps_ret (pe_and (pe_callB call_isi (by rfl) B.n_isinstance (by decide +kernel) (pa_cons (pv 0) (pa_cons (pe_bltn (v := .ty "int") (u := .type "int") (by rfl) B.n_int (by decide +kernel) rfl) pa_nil))) (pe_one (pe_not (pe_callB call_isi (by rfl) B.n_isinstance (by decide +kernel) (pa_cons (pv 0) (pa_cons (pe_bltn (v := .ty "bool") (u := .type "bool") (by rfl) B.n_bool (by decide +kernel) rfl) pa_nil)))))))), ?_⟩)
  · obtain ⟨i, rfl, _⟩ := h; rfl
  · obtain ⟨i, rfl, q⟩ := h
    refine ⟨_, rfl, .int i, .ty "int", .type "int", .type "int", true, rfl, .ty _, .base (.int i), kit_ty (by decide +kernel), _, rfl, ?_⟩
    refine ⟨_, rfl, .int i, .ty "bool", .type "int", .type "bool", false, rfl, .ty _, .base (.int i), kit_ty (by decide +kernel), _, rfl, q⟩
theorem ok_check_cycle {f f1 : Addr} {fd fd1 : FuncData} (B : Blt mg tC) (Dcheck_cycle : Def K mg "check_cycle" s_check_cycle ["cycle"] f fd) (Dis_whole : Def K mg "is_whole" s_is_whole ["value"] f1 fd1) : FnOk P w K mg base CX0 2 f fd ["cycle"] spCycle := by
  have Gis_whole := ok_is_whole (P := P) (w := w) (base := base) B Dis_whole
  refine Dcheck_cycle.F.ok sccheck_cycle (fun vs H Q E h => ?_) (fun cdv A outer s H vs Q E hr h => ⟨_, (pss_one (ps_if (PW.pt (pw_or (pt_not (pt_val (pe_call Gis_whole (hr.mono (by decide)) (by rfl) Dis_whole.g Dis_whole.F.kp Dis_whole.b .nil pass0 (pa_cons (pv 0) pa_nil)))) (pw_or1 (pt_not (pt_chain op_le op_le pe_int (pv 0) (pe_glob (v := .int (10 ^ 30)) (by rfl) B.MOST_CYCLE ⟨_, rfl⟩))))))
   (pss_one ps_never)
   pss_nil)), ?_⟩)
  · obtain ⟨i, rfl, _⟩ := h; rfl
  · obtain ⟨i, rfl, h1, h2, q⟩ := h
    refine ⟨_, rfl, _, rfl, _, rfl, ?_⟩
    refine ⟨_, rfl, _, _, rfl, rfl, _, rfl, ?_⟩
    rw [decide_eq_true h1]
    refine ⟨_, _, rfl, rfl, _, rfl, ?_⟩
    rw [decide_eq_true h2]
    exact q
theorem ok_check_moment {f f1 : Addr} {fd fd1 : FuncData} (B : Blt mg tC) (Dcheck_moment : Def K mg "check_moment" s_check_moment ["moment"] f fd) (Dis_whole : Def K mg "is_whole" s_is_whole ["value"] f1 fd1) : FnOk P w K mg base CX0 2 f fd ["moment"] spMoment := by
  have Gis_whole := ok_is_whole (P := P) (w := w) (base := base) B Dis_whole
  refine Dcheck_moment.F.ok sccheck_moment (fun vs H Q E h => ?_) (fun cdv A outer s H vs Q E hr h => ⟨_, (pss_one (ps_if (pt_not (pt_val (pe_call Gis_whole (hr.mono (by decide)) (by rfl) Dis_whole.g Dis_whole.F.kp Dis_whole.b .nil pass0 (pa_cons (pv 0) pa_nil))))
   (pss_one ps_never)
   pss_nil)), ?_⟩)
  · obtain ⟨i, rfl, _⟩ := h; rfl
  · obtain ⟨i, rfl, q⟩ := h
    exact ⟨_, rfl, _, rfl, _, rfl, q⟩
end
end Gr

set_option Elab.async false
set_option linter.all false
set_option pp.deepTerms false
set_option pp.maxSteps 3000
set_option maxRecDepth 100000
set_option maxHeartbeats 4000000
namespace Gr
open PySem PySem.Spec PyProof.Rows L2
theorem iteNT {c A B : Prop} [Decidable c] (hc : ¬ c) (h : A) : if (!decide c) = true then A else B := by
  rw [decide_eq_false hc]; exact iteT h
theorem iteY {c A B : Prop} [Decidable c] (hc : c) (h : A) : if (decide c) = true then A else B := by
  rw [decide_eq_true hc]; exact iteT h
theorem iteN {c A B : Prop} [Decidable c] (hc : ¬ c) (h : B) : if (decide c) = true then A else B := by
  rw [decide_eq_false hc]; exact iteF h
theorem chain_b {a b : Bool} {Q : V → Prop} (h : Q (.bl (a && b))) : ∃ k, V.bl a = .bl k ∧ (if k = true then Q (.bl b) else Q (.bl false)) := ⟨a, rfl, by cases a <;> exact h⟩
section
variable {P : Program} {w : World} {K : PySem.W.Frag} {mg : Str → Option Value} {base : Heap} {tC : Tok}
end
end Gr

set_option Elab.async false
set_option linter.all false
set_option pp.deepTerms false
set_option pp.maxSteps 3000
set_option maxRecDepth 100000
set_option maxHeartbeats 4000000
set_option exponentiation.threshold 3000
namespace Gr
open PySem PySem.Spec PyProof.Rows L2
def But (p : Addr) (H H' : Hp) : Prop := ∀ q o, q ≠ p → H q = some o → H' q = some o
theorem But.refl (p : Addr) (H : Hp) : But p H H := fun _ _ _ h => h
theorem But.trans {p : Addr} {H H1 H2 : Hp} (a : But p H H1) (b : But p H1 H2) : But p H H2 := fun q o n h => b q o n (a q o n h)
theorem Same.but {p : Addr} {H H' : Hp} (s : Same H H') : But p H H' := fun q o _ h => s q o h
theorem But.new {p q : Addr} {H H' : Hp} {o : HO} (s : But p H H') (h : H' q = none) : But p H (upd H' q o) := fun r u n e => by
  have := s r u n e
  rw [upd_ne (ne_of_none this h)]; exact this
theorem But.mut {p q : Addr} {H H' : Hp} {o : HO} (s : But p H H') (h : H q = none) : But p H (upd H' q o) := fun r u n e => by
  rw [upd_ne (ne_of_none e h)]; exact s r u n e
theorem But.at {p : Addr} {H H' : Hp} {o : HO} (s : But p H H') : But p H (upd H' p o) := fun r u n e => by
  rw [upd_ne n]; exact s r u n e
theorem But.fresh {p q : Addr} {H H' : Hp} {u : HO} (s : But p H H') (hp : H p = some u) (hp' : H' p ≠ none) (h : H' q = none) : H q = none := by
  cases e : H q with
  | none => rfl
  | some o =>
    by_cases hq : q = p
    · exact absurd (hq ▸ h) hp'
    · rw [s q o hq e] at h; cases h
theorem natAbs_lt {i : Int} {k : Nat} (h0 : 0 ≤ i) (h : i < ((2 ^ k : Nat) : Int)) : i.natAbs < 2 ^ k := by omega
theorem e60 : ((10 : Int) ^ 60) < ((2 ^ 200 : Nat) : Int) := by decide +kernel
theorem e100 : ((10 : Int) ^ 100) < ((2 ^ 1000 : Nat) : Int) := by decide +kernel
theorem draw_ok {m : Int} (h1 : 1 ≤ m) (h2 : m ≤ 10 ^ 100) : m.natAbs < 2 ^ 1000 := natAbs_lt (by omega) (Int.lt_of_le_of_lt h2 e100)
theorem fmod_rng {x m : Int} (h : 1 ≤ m) : 0 ≤ x.fmod m ∧ x.fmod m < m := by
  rw [Int.fmod_eq_emod_of_nonneg x (by omega)]
  exact ⟨Int.emod_nonneg x (by omega), Int.emod_lt_of_pos x (by omega)⟩
theorem cp30 : CPowW 10 30 := ⟨by decide, by decide +kernel⟩
theorem cp42 : CPowW 10 42 := ⟨by decide, by decide +kernel⟩
theorem cp44 : CPowW 10 44 := ⟨by decide, by decide +kernel⟩
theorem cube_of {i : Int} (h0 : 0 ≤ i) (h : i < ((2 ^ 1000 : Nat) : Int)) : CPowW i 3 := cube_ok (natAbs_lt h0 h)
theorem mulc {k c : Int} (h0 : 0 ≤ k) (h1 : k < ((2 ^ 40 : Nat) : Int)) (c0 : 0 ≤ c) (c1 : c ≤ 10 ^ 10) : CMulW k c := by
  have e : ((10 : Int) ^ 10) < ((2 ^ 40 : Nat) : Int) := by decide +kernel
  exact wide_mul (a := 40) (b := 40) (natAbs_lt h0 h1) (natAbs_lt c0 (by omega)) (by decide) (by decide) (by decide)
def pairD (g : Int × Int) : PyData := .tuple [.int g.1, .int g.2]
theorem lay_pairs : ∀ gs : List (Int × Int), PyData.canLayAll0 (gs.map pairD) = true
  | [] => by simp [PyData.canLayAll0]
  | g :: gs => by simp [PyData.canLayAll0, PyData.canLay0, pairD, lay_pairs gs]
theorem depth_pairs : ∀ gs : List (Int × Int), PyData.depthAll (gs.map pairD) ≤ 5
  | [] => by simp [PyData.depthAll]
  | g :: gs => by
    have := depth_pairs gs
    simp only [List.map_cons, PyData.depthAll, PyData.depth, pairD]
    omega
theorem shaped_pairs (gs : List (Int × Int)) : SeqAt.shaped (.list (gs.map pairD)) = true := by
  have h := depth_pairs gs
  unfold SeqAt.shaped
  rw [Bool.and_eq_true]
  refine ⟨by simpa only [PyData.canLay0] using lay_pairs gs, decide_eq_true ?_⟩
  simp only [PyData.depth]
  omega
theorem shaped_nil : SeqAt.shaped (.list []) = true := by decide +kernel
theorem eqv_nil : ∀ gs : List (Int × Int), PyData.eqv (.list (gs.map pairD)) (.list []) = gs.isEmpty
  | [] => by simp [PyData.eqv, PyData.eqvAll]
  | g :: gs => by simp [PyData.eqv, PyData.eqvAll]
theorem dp_pairs {K : PySem.W.Frag} {H : Hp} {xs : List V} {gs : List (Int × Int)} (h : Paired (GrAt H) xs gs) : DpAll K H xs (gs.map pairD) := by
  induction h with
  | nil => exact .nil
  | cons r t ih =>
    obtain ⟨b, rfl, h⟩ := r
    exact .cons (.tup (SqT.of h) (.cons (.int _) (.cons (.int _) .nil))) ih
theorem pick {xs : List Int} {r : Int} (h0 : 0 ≤ r) (h1 : r < (xs.length : Int)) : ∃ v ∈ xs, atI (xs.map V.int) r = some (.int v) := by
  obtain ⟨j, rfl⟩ : ∃ j : Nat, r = (j : Int) := ⟨r.toNat, (Int.toNat_of_nonneg h0).symm⟩
  have hl : j < xs.length := by omega
  refine ⟨xs[j], List.getElem_mem hl, atI_nat ?_⟩
  rw [List.getElem?_map, List.getElem?_eq_getElem hl]
  rfl
theorem GrAt.but {p : Addr} {H H' : Hp} {us : List V} (s : But p H H') (hp : H p = some (.lst us)) {x : V} {g : Int × Int} (h : GrAt H x g) : GrAt H' x g := by
  obtain ⟨b, e, h⟩ := h
  exact ⟨b, e, s b _ (ne_of h hp (fun z => nomatch z)) h⟩
theorem grs_but {p : Addr} {H H' : Hp} {us : List V} (s : But p H H') (hp : H p = some (.lst us)) {xs : List V} {gs : List (Int × Int)} (h : Paired (GrAt H) xs gs) : Paired (GrAt H') xs gs := L2.Paired.mapP h fun _ _ r => r.but s hp
theorem grs_same {H H' : Hp} (s : Same H H') {xs : List V} {gs : List (Int × Int)} (h : Paired (GrAt H) xs gs) : Paired (GrAt H') xs gs := L2.Paired.mapP h fun _ _ ⟨b, e, h⟩ => ⟨b, e, s _ _ h⟩
theorem SigT.but {p g : Addr} {H H' : Hp} {us : List V} (s : But p H H') (hp : H p = some (.lst us)) {gs : List (Int × Int)} (h : SigT H g gs) : SigT H' g gs := by
  obtain ⟨xs, h1, h2⟩ := h
  exact ⟨xs, s g _ (ne_of h1 hp (fun z => nomatch z)) h1, grs_but s hp h2⟩
theorem paired_snoc {α β : Type} {R : α → β → Prop} : ∀ {xs : List α} {ys : List β} {x : α} {y : β}, Paired R xs ys → R x y → Paired R (xs ++ [x]) (ys ++ [y])
  | _, _, _, _, .nil, r => .cons r .nil
  | _, _, _, _, .cons q t, r => .cons q (paired_snoc t r)
theorem emod_two {x s : Int} (h0 : -s ≤ x) (h1 : x < 2 * s) (hs : 0 < s) : x % s = if x < 0 then x + s else if x < s then x else x - s := by
  by_cases a : x < 0
  · rw [if_pos a, ← Int.add_emod_right, Int.emod_eq_of_lt (by omega) (by omega)]
  · rw [if_neg a]
    by_cases b : x < s
    · rw [if_pos b, Int.emod_eq_of_lt (by omega) b]
    · rw [if_neg b, ← Int.sub_emod_right, Int.emod_eq_of_lt (by omega) (by omega)]
theorem rest_eq {t o j s : Int} (t0 : 0 ≤ t) (t1 : t < s) (o0 : 0 ≤ o) (o1 : o < s) (j0 : 0 ≤ j) (j1 : j < s) : ((t - o) % s = j) ↔ t = (o + j) % s := by
  rw [emod_two (x := t - o) (s := s) (by omega) (by omega) (by omega), emod_two (x := o + j) (s := s) (by omega) (by omega) (by omega)]
  split <;> split <;> (try split) <;> omega
def scal2 (f : Int) (gs : List (Int × Int)) : List (Int × Int) := gs.map fun g => (g.1 * f, g.2 * f)
theorem mul30 {i j : Int} (i0 : 0 ≤ i) (i1 : i ≤ 10 ^ 30) (j0 : 0 ≤ j) (j1 : j ≤ 10 ^ 30) : CMulW i j := by
  have e : (10 : Int) ^ 30 < ((2 ^ 100 : Nat) : Int) := by decide +kernel
  exact wide_mul (a := 100) (b := 100) (natAbs_lt i0 (by omega)) (natAbs_lt j0 (by omega)) (by decide) (by decide) (by decide)
theorem mulBig {i j : Int} (i0 : i.natAbs < 2 ^ 1000) (j0 : j.natAbs < 2 ^ 1000) : CMulW i j := wide_mul (a := 1000) (b := 1000) i0 j0 (by decide) (by decide) (by decide)
theorem lit_mod (s : Int) (gs : List (Int × Int)) (t : Int) : lit s gs (t % s) = lit s gs t := by
  unfold lit
  congr 1
  funext g
  rw [Int.emod_sub_emod]
theorem lit_far (s : Int) (gs : List (Int × Int)) (t k : Int) : lit s gs (t + k * s) = lit s gs t := by
  rw [← lit_mod s gs (t + k * s), Int.add_mul_emod_self_right, lit_mod]
theorem lit_scal {s f : Int} (gs : List (Int × Int)) (x r : Int) (hs : 0 < s) (hf : 0 < f) (r0 : 0 ≤ r) (r1 : r < f) : lit (s * f) (scal2 f gs) (x * f + r) = lit s gs x := by
  unfold lit scal2
  rw [List.any_map]
  congr 1
  funext g
  show decide ((x * f + r - g.1 * f) % (s * f) < g.2 * f) = decide ((x - g.1) % s < g.2)
  have e : (x * f + r - g.1 * f) % (s * f) = ((x - g.1) % s) * f + r := by
    have h1 : x * f + r - g.1 * f = (((x - g.1) % s) * f + r) + (s * f) * ((x - g.1) / s) := by
      have := Int.emod_add_mul_ediv (x - g.1) s
      have h2 : (x - g.1) * f = ((x - g.1) % s + s * ((x - g.1) / s)) * f := by rw [this]
      rw [Int.sub_mul, Int.add_mul] at h2
      have h3 : s * ((x - g.1) / s) * f = s * f * ((x - g.1) / s) := by rw [Int.mul_right_comm]
      omega
    rw [h1, Int.add_mul_emod_self_left]
    have m0 := Int.emod_nonneg (x - g.1) (show s ≠ 0 by omega)
    have m1 := Int.emod_lt_of_pos (x - g.1) hs
    have a : ((x - g.1) % s) * f ≥ 0 := Int.mul_nonneg m0 (by omega)
    have b : ((x - g.1) % s + 1) * f ≤ s * f := Int.mul_le_mul_of_nonneg_right (by omega) (by omega)
    rw [Int.add_mul, Int.one_mul] at b
    exact Int.emod_eq_of_lt (by omega) (by omega)
  rw [e]
  congr 1
  apply propext
  constructor
  · intro h
    have : ((x - g.1) % s) * f < g.2 * f := by omega
    exact Int.lt_of_mul_lt_mul_right this (by omega)
  · intro h
    have b : ((x - g.1) % s + 1) * f ≤ g.2 * f := Int.mul_le_mul_of_nonneg_right (by omega) (by omega)
    rw [Int.add_mul, Int.one_mul] at b
    omega
theorem textFrom_le : ∀ (ts : List Str) (k : Nat) (acc : Str), (∀ t ∈ ts, t.length ≤ 5) → (textFrom k acc ts).length ≤ acc.length + 7 * ts.length
  | [], k, acc, _ => Nat.le_refl _
  | t :: r, k, acc, h => by
    have ih := textFrom_le r (k + 1) (acc ++ (if k > 0 then ", " else "" : String) ++ t) (fun x hx => h x (List.mem_cons_of_mem _ hx))
    have e : (acc ++ (if k > 0 then ", " else "" : String) ++ t).length ≤ acc.length + 2 + 5 := by
      rw [strLen_append, strLen_append]
      have := h t List.mem_cons_self
      have z : (Str.ofString (if k > 0 then ", " else "" : String)).length ≤ 2 := by split <;> decide
      omega
    show (textFrom (k + 1) (acc ++ (if k > 0 then ", " else "" : String) ++ t) r).length ≤ _
    rw [List.length_cons]
    omega
def boolsD (bs : List Bool) : PyData := .list (bs.map PyData.bool)
theorem shownAll_b : ∀ bs : List Bool, (∀ t ∈ PyData.shownAll (bs.map PyData.bool), t.length ≤ 5) ∧ (PyData.shownAll (bs.map PyData.bool)).length = bs.length
  | [] => ⟨fun _ h => by simp [PyData.shownAll] at h, rfl⟩
  | b :: bs => by
    have ih := shownAll_b bs
    refine ⟨fun t h => ?_, by simpa [PyData.shownAll] using ih.2⟩
    simp only [List.map_cons, PyData.shownAll, List.mem_cons] at h
    rcases h with rfl | h
    · cases b <;> decide
    · exact ih.1 t h
theorem bools_len (bs : List Bool) (h : bs.length ≤ 10000) : (boolsD bs).shown.length ≤ sizeLine := by
  have h1 := shownAll_b bs
  have h2 := textFrom_le _ 0 "[" h1.1
  have e : (boolsD bs).shown = textFrom 0 "[" (PyData.shownAll (bs.map PyData.bool)) ++ "]" := by
    unfold boolsD
    simp only [PyData.shown, listText]
  rw [e, strLen_append]
  rw [h1.2] at h2
  have z1 : (Str.ofString "[").length = 1 := by decide
  have z2 : (Str.ofString "]").length = 1 := by decide
  rw [z1] at h2
  rw [z2, sizeLine_eq]
  omega
theorem bools_show : ∀ bs : List Bool, (boolsD bs).showable = true ∧ (boolsD bs).hasDict = false ∧ (boolsD bs).depth ≤ 40 := fun bs => by
  have a : PyData.showableAll (bs.map PyData.bool) = true := by
    induction bs with
    | nil => simp [PyData.showableAll]
    | cons b r ih => simp [PyData.showableAll, PyData.showable, ih]
  have b : PyData.hasDictAll (bs.map PyData.bool) = false := by
    induction bs with
    | nil => simp [PyData.hasDictAll]
    | cons b r ih => simp [PyData.hasDictAll, PyData.hasDict] ; simp [PyData.showableAll, PyData.showable] at a; exact ih a
  have c : PyData.depthAll (bs.map PyData.bool) ≤ 5 := by
    clear a b
    induction bs with
    | nil => simp [PyData.depthAll]
    | cons b r ih => simp only [List.map_cons, PyData.depthAll, PyData.depth]; omega
  unfold boolsD
  refine ⟨by simpa only [PyData.showable] using a, by simpa only [PyData.hasDict] using b, ?_⟩
  simp only [PyData.depth]
  omega
theorem dp_bools {K : PySem.W.Frag} {H : Hp} : ∀ bs : List Bool, DpAll K H (bs.map V.bl) (bs.map PyData.bool)
  | [] => .nil
  | b :: bs => .cons (.bl b) (dp_bools bs)
end Gr

set_option Elab.async false
set_option linter.all false
set_option pp.deepTerms false
set_option pp.maxSteps 3000
set_option maxRecDepth 100000
set_option maxHeartbeats 4000000
namespace Gr
open PySem PySem.Spec PyProof.Rows L2
/-! ### the longest stretches: one list alone -/
/-- a longest stretch of f, begun within the first cycle -/
def IsArc (c : Int) (f : Int → Bool) (g : Int × Int) : Prop :=
  0 ≤ g.1 ∧ g.1 < c ∧ 1 ≤ g.2 ∧ f (g.1 - 1) = false ∧ (∀ j, 0 ≤ j → j < g.2 → f (g.1 + j) = true) ∧ f (g.1 + g.2) = false
def Canon (c : Int) (f : Int → Bool) (A : List (Int × Int)) : Prop :=
  ((∀ t, f t = true) ∧ A = [(0, c)]) ∨ ((∃ t, f t = false) ∧ A.Pairwise (fun a b => a.1 < b.1) ∧ ∀ g, g ∈ A ↔ IsArc c f g)
theorem sorted_ext : ∀ {A B : List (Int × Int)}, A.Pairwise (fun a b => a.1 < b.1) → B.Pairwise (fun a b => a.1 < b.1) → (∀ g, g ∈ A ↔ g ∈ B) → A = B
  | [], [], _, _, _ => rfl
  | [], b :: B, _, _, h => absurd ((h b).mpr List.mem_cons_self) (by simp)
  | a :: A, [], _, _, h => absurd ((h a).mp List.mem_cons_self) (by simp)
  | a :: A, b :: B, hA, hB, h => by
    have hA' := List.pairwise_cons.mp hA
    have hB' := List.pairwise_cons.mp hB
    have e : a = b := by
      rcases List.mem_cons.mp ((h a).mp List.mem_cons_self) with e | e
      · exact e
      · rcases List.mem_cons.mp ((h b).mpr List.mem_cons_self) with e' | e'
        · exact e'.symm
        · have h1 := hB'.1 a e
          have h2 := hA'.1 b e'
          omega
    subst e
    congr 1
    refine sorted_ext hA'.2 hB'.2 fun g => ⟨fun hg => ?_, fun hg => ?_⟩
    · rcases List.mem_cons.mp ((h g).mp (List.mem_cons_of_mem _ hg)) with e | e
      · subst e; have := hA'.1 g hg; omega
      · exact e
    · rcases List.mem_cons.mp ((h g).mpr (List.mem_cons_of_mem _ hg)) with e | e
      · subst e; have := hB'.1 g hg; omega
      · exact e
theorem Canon.uniq {c : Int} {f : Int → Bool} {A B : List (Int × Int)} (hA : Canon c f A) (hB : Canon c f B) : A = B := by
  rcases hA with ⟨a1, a2⟩ | ⟨⟨t, a1⟩, a2, a3⟩
  · rcases hB with ⟨b1, b2⟩ | ⟨⟨t, b1⟩, b2, b3⟩
    · rw [a2, b2]
    · rw [a1 t] at b1; cases b1
  · rcases hB with ⟨b1, b2⟩ | ⟨⟨t, b1⟩, b2, b3⟩
    · rw [b1 t] at a1; cases a1
    · exact sorted_ext a2 b2 fun g => (a3 g).trans (b3 g).symm
theorem Canon.to {c : Int} {f h : Int → Bool} {A : List (Int × Int)} (hA : Canon c f A) (e : ∀ t, f t = h t) : Canon c h A := by
  have : f = h := funext e
  rw [← this]; exact hA
theorem lit_iff {c t : Int} {A : List (Int × Int)} : lit c A t = true ↔ ∃ g ∈ A, (t - g.1) % c < g.2 := by
  unfold lit
  rw [List.any_eq_true]
  constructor
  · rintro ⟨g, h1, h2⟩; exact ⟨g, h1, of_decide_eq_true h2⟩
  · rintro ⟨g, h1, h2⟩; exact ⟨g, h1, decide_eq_true h2⟩
theorem lit_no {c t : Int} {A : List (Int × Int)} : lit c A t = false ↔ ∀ g ∈ A, ¬ (t - g.1) % c < g.2 := by
  rw [← Bool.not_eq_true, lit_iff]
  exact ⟨fun h g hg z => h ⟨g, hg, z⟩, fun h ⟨g, hg, z⟩ => h g hg z⟩
/-- greens with a red moment behind each -/
structure Sep (c : Int) (A : List (Int × Int)) : Prop where
  up : A.Pairwise (fun a b => a.1 < b.1)
  rng : ∀ g ∈ A, 0 ≤ g.1 ∧ g.1 < c ∧ 1 ≤ g.2 ∧ g.2 < c
  gap : ∀ g ∈ A, ∀ h ∈ A, g ≠ h → g.2 < (h.1 - g.1) % c
theorem Sep.behind {c : Int} {A : List (Int × Int)} (S : Sep c A) {g : Int × Int} (hg : g ∈ A) : lit c A (g.1 + g.2) = false := lit_no.mpr fun h hh z => by
  have r1 := S.rng g hg
  have r2 := S.rng h hh
  by_cases e : g = h
  · subst e
    rw [Int.emod_eq_of_lt (by omega) (by omega)] at z
    omega
  · have g1 := S.gap g hg h hh e
    have g2 := S.gap h hh g hg (fun z => e z.symm)
    rw [emod_two (by omega) (by omega) (by omega)] at z g1 g2
    split at z <;> split at g1 <;> split at g2 <;> (try split at z) <;> (try split at g1) <;> (try split at g2) <;> omega
theorem Sep.ahead {c : Int} {A : List (Int × Int)} (S : Sep c A) {g : Int × Int} (hg : g ∈ A) : lit c A (g.1 - 1) = false := lit_no.mpr fun h hh z => by
  have r1 := S.rng g hg
  have r2 := S.rng h hh
  by_cases e : g = h
  · subst e
    rw [emod_two (by omega) (by omega) (by omega)] at z
    split at z <;> (try split at z) <;> omega
  · have g2 := S.gap h hh g hg (fun z => e z.symm)
    rw [emod_two (by omega) (by omega) (by omega)] at z g2
    split at z <;> split at g2 <;> (try split at z) <;> (try split at g2) <;> omega
theorem Sep.canon {c : Int} {A : List (Int × Int)} (S : Sep c A) (ne : A ≠ []) : Canon c (lit c A) A := by
  refine .inr ⟨?_, S.up, fun g => ⟨fun hg => ?_, fun ha => ?_⟩⟩
  · match A, ne, S with
    | g :: r, _, S => exact ⟨_, S.behind (List.mem_cons_self)⟩
  · have r := S.rng g hg
    refine ⟨r.1, r.2.1, r.2.2.1, S.ahead hg, fun j j0 j1 => lit_iff.mpr ⟨g, hg, ?_⟩, S.behind hg⟩
    rw [Int.emod_eq_of_lt (by omega) (by omega)]
    omega
  · obtain ⟨o, l⟩ := g
    obtain ⟨h1, h2, h3, h4, h5, h6⟩ := ha
    simp only at h1 h2 h3 h4 h5 h6
    have h50 := h5 0 (by omega) (by omega)
    rw [Int.add_zero] at h50
    obtain ⟨h, hh, z⟩ := lit_iff.mp h50
    have r := S.rng h hh
    have e : o = h.1 := by
      refine Decidable.byContradiction fun e => ?_
      refine lit_no.mp h4 h hh ?_
      rw [emod_two (by omega) (by omega) (by omega)] at z ⊢
      split at z <;> split <;> (try split at z) <;> (try split) <;> omega
    have e2 : l = h.2 := by
      subst e
      rcases Int.lt_trichotomy l h.2 with a | a | a
      · refine absurd ?_ (lit_no.mp h6 h hh)
        rw [Int.emod_eq_of_lt (by omega) (by omega)]
        omega
      · exact a
      · have b := h5 h.2 (by omega) a
        rw [S.behind hh] at b
        cases b
    rw [e, e2]; exact hh
/-! ### joined from the left -/
def Cov (A : List (Int × Int)) (x : Int) : Prop := ∃ g ∈ A, g.1 ≤ x ∧ x < g.1 + g.2
theorem lit_lin {c t : Int} {A : List (Int × Int)} (hc : 0 < c) : lit c A t = true ↔ ∃ k : Int, Cov A (t + c * k) := by
  rw [lit_iff]
  constructor
  · rintro ⟨g, hg, h⟩
    refine ⟨-((t - g.1) / c), g, hg, ?_⟩
    have h1 := Int.emod_add_mul_ediv (t - g.1) c
    have h2 := Int.emod_nonneg (t - g.1) (show c ≠ 0 by omega)
    rw [Int.mul_neg]
    omega
  · rintro ⟨k, g, hg, h⟩
    refine ⟨g, hg, ?_⟩
    have e : (t - g.1) % c = (t + c * k - g.1) % c := by
      rw [show t + c * k - g.1 = (t - g.1) + c * k by omega, Int.add_mul_emod_self_left]
    rw [e]
    have h1 := Int.emod_add_mul_ediv (t + c * k - g.1) c
    have h2 : 0 ≤ (t + c * k - g.1) / c := Int.ediv_nonneg (by omega) (by omega)
    have h3 : 0 ≤ c * ((t + c * k - g.1) / c) := Int.mul_nonneg (by omega) h2
    omega
structure Jn (c : Int) (pre J : List (Int × Int)) : Prop where
  sep : J.Pairwise (fun a b => a.1 + a.2 < b.1)
  rng : ∀ g ∈ J, 0 ≤ g.1 ∧ g.1 < c ∧ 1 ≤ g.2 ∧ g.1 + g.2 ≤ 2 * c
  cov : ∀ x, Cov J x ↔ Cov pre x
  beg : ∀ g ∈ J, ∃ p ∈ pre, g.1 = p.1
  len : J.length ≤ pre.length
  any : pre ≠ [] → J ≠ []
theorem Jn.nil (c : Int) : Jn c [] [] := ⟨List.Pairwise.nil, fun _ h => (List.not_mem_nil h).elim, fun _ => Iff.rfl, fun _ h => (List.not_mem_nil h).elim, Nat.le_refl _, fun h => h⟩
theorem cov_app {A B : List (Int × Int)} {x : Int} : Cov (A ++ B) x ↔ Cov A x ∨ Cov B x := by
  unfold Cov
  constructor
  · rintro ⟨g, hg, h⟩
    rcases List.mem_append.mp hg with z | z
    · exact .inl ⟨g, z, h⟩
    · exact .inr ⟨g, z, h⟩
  · rintro (⟨g, hg, h⟩ | ⟨g, hg, h⟩)
    · exact ⟨g, List.mem_append.mpr (.inl hg), h⟩
    · exact ⟨g, List.mem_append.mpr (.inr hg), h⟩
theorem cov_one {g : Int × Int} {x : Int} : Cov [g] x ↔ g.1 ≤ x ∧ x < g.1 + g.2 := by
  unfold Cov
  constructor
  · rintro ⟨h, hh, z⟩; rw [List.mem_singleton.mp hh] at z; exact z
  · intro z; exact ⟨g, List.mem_singleton.mpr rfl, z⟩
theorem Jn.app {c : Int} {pre J : List (Int × Int)} {g : Int × Int} (h : Jn c pre J) (hg : 0 ≤ g.1 ∧ g.1 < c ∧ 1 ≤ g.2 ∧ g.2 ≤ c) (far : ∀ b ∈ J, b.1 + b.2 < g.1) : Jn c (pre ++ [g]) (J ++ [g]) where
  sep := List.pairwise_append.mpr ⟨h.sep, List.pairwise_singleton _ _, fun a ha b hb => by rw [List.mem_singleton.mp hb]; exact far a ha⟩
  rng := fun b hb => by
    rcases List.mem_append.mp hb with z | z
    · exact h.rng b z
    · rw [List.mem_singleton.mp z]; omega
  cov := fun x => by rw [cov_app, cov_app, h.cov]
  beg := fun b hb => by
    rcases List.mem_append.mp hb with z | z
    · obtain ⟨p, hp, e⟩ := h.beg b z
      exact ⟨p, List.mem_append.mpr (.inl hp), e⟩
    · rw [List.mem_singleton.mp z]; exact ⟨g, by simp, rfl⟩
  len := by have := h.len; simp; omega
  any := fun _ => by simp
theorem Jn.ext {c : Int} {pre K : List (Int × Int)} {b g : Int × Int} {m : Int} (h : Jn c pre (K ++ [b])) (hg : 0 ≤ g.1 ∧ g.1 < c ∧ 1 ≤ g.2 ∧ g.2 ≤ c) (after : b.1 ≤ g.1) (near : g.1 ≤ b.1 + b.2) (m1 : b.2 ≤ m) (m2 : g.1 + g.2 - b.1 ≤ m) (m3 : m = b.2 ∨ m = g.1 + g.2 - b.1) :
    Jn c (pre ++ [g]) (K ++ [(b.1, m)]) where
  sep := by
    obtain ⟨h1, h2, h3⟩ := List.pairwise_append.mp h.sep
    exact List.pairwise_append.mpr ⟨h1, List.pairwise_singleton _ _, fun a ha z hz => by rw [List.mem_singleton.mp hz]; exact h3 a ha b (by simp)⟩
  rng := fun z hz => by
    have hb := h.rng b (by simp)
    rcases List.mem_append.mp hz with y | y
    · exact h.rng z (List.mem_append.mpr (.inl y))
    · rw [List.mem_singleton.mp y]; simp only; omega
  cov := fun x => by
    have := h.cov x
    rw [cov_app, cov_one] at this
    rw [cov_app, cov_app, cov_one, cov_one, ← this]
    simp only
    constructor
    · rintro (z | z)
      · exact .inl (.inl z)
      · by_cases y : x < b.1 + b.2
        · exact .inl (.inr ⟨z.1, y⟩)
        · exact .inr (by omega)
    · rintro ((z | z) | z)
      · exact .inl z
      · exact .inr (by omega)
      · exact .inr (by omega)
  beg := fun z hz => by
    rcases List.mem_append.mp hz with y | y
    · obtain ⟨p, hp, e⟩ := h.beg z (List.mem_append.mpr (.inl y))
      exact ⟨p, List.mem_append.mpr (.inl hp), e⟩
    · rw [List.mem_singleton.mp y]
      obtain ⟨p, hp, e⟩ := h.beg b (by simp)
      exact ⟨p, List.mem_append.mpr (.inl hp), e⟩
  len := by have := h.len; simp at this ⊢; omega
  any := fun _ => by simp
/-! ### over the end -/
theorem pw_two {α : Type} {R : α → α → Prop} : ∀ {A : List α}, A.Pairwise R → ∀ g ∈ A, ∀ k ∈ A, g ≠ k → R g k ∨ R k g
  | [], _, _, hg, _, _, _ => (List.not_mem_nil hg).elim
  | a :: A, h, g, hg, k, hk, ne => by
    have h' := List.pairwise_cons.mp h
    rcases List.mem_cons.mp hg with e | e
    · rcases List.mem_cons.mp hk with y | y
      · exact absurd (e.trans y.symm) ne
      · subst e; exact .inl (h'.1 k y)
    · rcases List.mem_cons.mp hk with y | y
      · subst y; exact .inr (h'.1 g e)
      · exact pw_two h'.2 g e k y ne
theorem filter_parts (p : Int × Int → Bool) : ∀ K : List (Int × Int), K.Pairwise (fun a b => p b = true → p a = true) → K.filter p ++ K.drop (K.filter p).length = K ∧ ∀ g ∈ K.drop (K.filter p).length, p g = false
  | [], _ => ⟨rfl, fun _ h => (List.not_mem_nil h).elim⟩
  | g :: K, h => by
    have h' := List.pairwise_cons.mp h
    cases e : p g with
    | true =>
      have ih := filter_parts p K h'.2
      rw [List.filter_cons_of_pos e]
      simp only [List.length_cons, List.drop_succ_cons, List.cons_append]
      exact ⟨by rw [ih.1], ih.2⟩
    | false =>
      have none : ∀ x ∈ K, p x = false := fun x hx => by
        cases ex : p x with
        | false => rfl
        | true => rw [h'.1 x hx ex] at e; cases e
      have fe : (g :: K).filter p = [] := List.filter_eq_nil_iff.mpr fun x hx => by
        rcases List.mem_cons.mp hx with z | z
        · rw [z, e]; simp
        · rw [none x z]; simp
      rw [fe]
      refine ⟨rfl, fun x hx => ?_⟩
      rcases List.mem_cons.mp hx with z | z
      · rw [z]; exact e
      · exact none x z
theorem over_end {c b r R : Int} {pre K met rest : List (Int × Int)} (hc : 0 < c) (h : Jn c pre (K ++ [(b, r)])) (eK : K = met ++ rest) (hm : ∀ g ∈ met, g.1 + c ≤ b + r) (hr : ∀ g ∈ rest, b + r < g.1 + c)
    (R0 : r ≤ R) (R1 : ∀ g ∈ met, g.1 + c + g.2 - b ≤ R) (R2 : R = r ∨ ∃ g ∈ met, R = g.1 + c + g.2 - b) :
    (c ≤ R → ∀ t, lit c pre t = true) ∧ (R < c → Sep c (rest ++ [(b, R)]) ∧ ∀ t, lit c (rest ++ [(b, R)]) t = lit c pre t) := by
  obtain ⟨s1, s2, s3⟩ := List.pairwise_append.mp h.sep
  have hb := h.rng (b, r) (by simp)
  simp only at hb
  have inK : ∀ g ∈ K, 0 ≤ g.1 ∧ g.1 + g.2 < b ∧ 1 ≤ g.2 := fun g hg => by
    have a := h.rng g (List.mem_append.mpr (.inl hg))
    have d := s3 g hg (b, r) (by simp)
    simp only at d
    omega
  have litJ : ∀ t, lit c pre t = true ↔ ∃ k : Int, Cov (K ++ [(b, r)]) (t + c * k) := fun t => by
    rw [lit_lin hc]
    exact ⟨fun ⟨k, z⟩ => ⟨k, (h.cov _).mpr z⟩, fun ⟨k, z⟩ => ⟨k, (h.cov _).mp z⟩⟩
  have pull : ∀ x, b ≤ x → x < b + R → ∃ k : Int, Cov (K ++ [(b, r)]) (x + c * k) := fun x x0 x1 => by
    by_cases y : x < b + r
    · exact ⟨0, (b, r), by simp, by simp only; omega⟩
    · rcases R2 with e | ⟨m, hmm, e⟩
      · omega
      · have m1 := hm m hmm
        refine ⟨-1, m, ?_, by omega⟩
        rw [eK]; simp [hmm]
  have shift : ∀ t k : Int, (∃ k', Cov (K ++ [(b, r)]) (t + c * k + c * k')) → lit c pre t = true := fun t k ⟨k', z⟩ => (litJ t).mpr ⟨k + k', by rw [Int.mul_add, ← Int.add_assoc]; exact z⟩
  refine ⟨fun hR t => ?_, fun hR => ⟨?_, fun t => ?_⟩⟩
  · have h1 := Int.emod_add_mul_ediv (t - b) c
    have h2 := Int.emod_nonneg (t - b) (show c ≠ 0 by omega)
    have h3 := Int.emod_lt_of_pos (t - b) hc
    have e : t + c * -((t - b) / c) = b + (t - b) % c := by rw [Int.mul_neg]; omega
    exact shift t (-((t - b) / c)) (by rw [e]; exact pull _ (by omega) (by omega))
  · have sub : ∀ g ∈ rest, g ∈ K := fun g hg => by rw [eK]; simp [hg]
    have sr : rest.Pairwise (fun a b => a.1 + a.2 < b.1) := by rw [eK] at s1; exact (List.pairwise_append.mp s1).2.1
    have metrest : ∀ m ∈ met, ∀ g ∈ rest, m.1 + m.2 < g.1 := by rw [eK] at s1; exact (List.pairwise_append.mp s1).2.2
    have past : ∀ g ∈ rest, b + R < g.1 + c := fun g hg => by
      rcases R2 with e | ⟨m, hmm, e⟩
      · have := hr g hg; omega
      · have := metrest m hmm g hg; omega
    have two : ∀ g ∈ rest, ∀ k ∈ rest, g ≠ k → g.1 + g.2 < k.1 ∨ k.1 + k.2 < g.1 := fun g hg k hk ne => by
      exact pw_two sr g hg k hk ne
    refine ⟨?_, fun g hg => ?_, fun g hg k hk ne => ?_⟩
    · refine List.pairwise_append.mpr ⟨List.Pairwise.imp_of_mem (fun {a b} ha hb z => by have := inK a (sub a ha); omega) sr, List.pairwise_singleton _ _, fun a ha z hz => ?_⟩
      rw [List.mem_singleton.mp hz]
      have := inK a (sub a ha)
      simp only; omega
    · rcases List.mem_append.mp hg with z | z
      · have := inK g (sub g z); omega
      · rw [List.mem_singleton.mp z]; simp only; omega
    · rcases List.mem_append.mp hg with z | z
      · have a1 := inK g (sub g z)
        rcases List.mem_append.mp hk with y | y
        · have a2 := inK k (sub k y)
          rw [emod_two (by omega) (by omega) (by omega)]
          have := two g z k y ne
          split <;> (try split) <;> omega
        · rw [List.mem_singleton.mp y]
          simp only
          rw [emod_two (by omega) (by omega) (by omega)]
          split <;> (try split) <;> omega
      · have eg := List.mem_singleton.mp z
        rcases List.mem_append.mp hk with y | y
        · have a2 := inK k (sub k y)
          have a3 := past k y
          rw [eg]
          simp only
          rw [emod_two (by omega) (by omega) (by omega)]
          split <;> (try split) <;> omega
        · exact absurd (eg.trans (List.mem_singleton.mp y).symm) ne
  · have iff : lit c (rest ++ [(b, R)]) t = true ↔ lit c pre t = true := by
      constructor
      · intro z
        obtain ⟨k, z⟩ := (lit_lin hc).mp z
        rcases cov_app.mp z with ⟨g, hg, y⟩ | y
        · exact (litJ t).mpr ⟨k, g, by rw [eK]; simp [hg], y⟩
        · have y' := cov_one.mp y
          exact shift t k (pull _ y'.1 y'.2)
      · intro z
        obtain ⟨k, g, hg, y⟩ := (litJ t).mp z
        refine (lit_lin hc).mpr ?_
        rcases List.mem_append.mp hg with x | x
        · rw [eK] at x
          rcases List.mem_append.mp x with x | x
          · refine ⟨k + 1, (b, R), by simp, ?_⟩
            have := R1 g x
            have := inK g (by rw [eK]; simp [x])
            rw [Int.mul_add, Int.mul_one]
            simp only; omega
          · exact ⟨k, g, by simp [x], y⟩
        · rw [List.mem_singleton.mp x] at y
          exact ⟨k, (b, R), by simp, by simp only at y ⊢; omega⟩
    cases e : lit c pre t with
    | true => exact iff.mpr e
    | false =>
      cases e2 : lit c (rest ++ [(b, R)]) t with
      | false => rfl
      | true => rw [iff.mp e2] at e; cases e
/-! ### scaled -/
theorem div_rest {f x : Int} (hf : 0 < f) : x = x / f * f + x % f := by
  have := Int.emod_add_mul_ediv x f
  rw [Int.mul_comm] at this
  omega
theorem lit_div {s f : Int} (gs : List (Int × Int)) (x : Int) (hs : 0 < s) (hf : 0 < f) : lit (s * f) (scal2 f gs) x = lit s gs (x / f) := by
  have a := lit_scal gs (x / f) (x % f) hs hf (Int.emod_nonneg x (by omega)) (Int.emod_lt_of_pos x hf)
  rw [← div_rest hf] at a
  exact a
theorem Canon.scal {c f : Int} {h : Int → Bool} {A : List (Int × Int)} (hc : 0 < c) (hf : 0 < f) (H : Canon c h A) : Canon (c * f) (fun t => h (t / f)) (scal2 f A) := by
  rcases H with ⟨a1, a2⟩ | ⟨⟨t, a1⟩, a2, a3⟩
  · exact .inl ⟨fun t => a1 _, by rw [a2]; simp [scal2]⟩
  · have mono : ∀ x y : Int, x < y → x * f < y * f := fun x y z => Int.mul_lt_mul_of_pos_right z hf
    refine .inr ⟨⟨t * f, by show h (t * f / f) = false; rw [Int.mul_ediv_cancel _ (by omega)]; exact a1⟩, ?_, fun g => ?_⟩
    · unfold scal2
      rw [List.pairwise_map]
      exact a2.imp fun z => mono _ _ z
    · unfold scal2
      rw [List.mem_map]
      have dv : ∀ o j : Int, (o * f + j) / f = o + j / f := fun o j => by rw [Int.add_comm, Int.add_mul_ediv_right _ _ (by omega), Int.add_comm]
      constructor
      · rintro ⟨⟨o, l⟩, ho, rfl⟩
        obtain ⟨h1, h2, h3, h4, h5, h6⟩ := (a3 (o, l)).mp ho
        simp only at h1 h2 h3 h4 h5 h6
        refine ⟨Int.mul_nonneg h1 (by omega), mono _ _ h2, ?_, ?_, fun j j0 j1 => ?_, ?_⟩
        · have := Int.mul_le_mul_of_nonneg_right h3 (show 0 ≤ f by omega)
          simp only; omega
        · show h ((o * f - 1) / f) = false
          rw [Int.sub_eq_add_neg, dv, show (-1 : Int) / f = -1 by
            rw [Int.neg_one_ediv, Int.sign_eq_one_of_pos hf]]
          exact h4
        · show h ((o * f + j) / f) = true
          rw [dv]
          refine h5 _ (Int.ediv_nonneg j0 (by omega)) ?_
          exact Int.ediv_lt_of_lt_mul hf j1
        · show h ((o * f + l * f) / f) = false
          rw [dv, Int.mul_ediv_cancel _ (by omega)]
          exact h6
      · rintro ⟨h1, h2, h3, h4, h5, h6⟩
        obtain ⟨O, L⟩ := g
        simp only at h1 h2 h3 h4 h5 h6
        -- both are multiples of f
        have k0 := h5 0 (by omega) (by omega)
        rw [Int.add_zero] at k0
        have eO := div_rest (x := O) hf
        have rO := Int.emod_nonneg O (show f ≠ 0 by omega)
        have rO1 := Int.emod_lt_of_pos O hf
        have mO : O % f = 0 := by
          refine Decidable.byContradiction fun z => ?_
          have e : (O - 1) / f = O / f := by
            have : O - 1 = O / f * f + (O % f - 1) := by omega
            have z0 : (O % f - 1) / f = 0 := Int.ediv_eq_zero_of_lt (by omega) (by omega)
            rw [this, dv, z0, Int.add_zero]
          rw [e, k0] at h4
          cases h4
        have eO' : O = O / f * f := by omega
        generalize hq : O / f = q at *
        subst eO'
        have eL := div_rest (x := L) hf
        have rL := Int.emod_nonneg L (show f ≠ 0 by omega)
        have rL1 := Int.emod_lt_of_pos L hf
        have mL : L % f = 0 := by
          refine Decidable.byContradiction fun z => ?_
          have e : (q * f + L) / f = (q * f + (L - 1)) / f := by
            rw [dv, dv]
            congr 1
            have : L - 1 = L / f * f + (L % f - 1) := by omega
            have z0 : (L % f - 1) / f = 0 := Int.ediv_eq_zero_of_lt (by omega) (by omega)
            rw [this, dv, z0, Int.add_zero]
          rw [e, h5 (L - 1) (by omega) (by omega)] at h6
          cases h6
        have eL' : L = L / f * f := by omega
        generalize hp : L / f = p at *
        subst eL'
        refine ⟨(q, p), (a3 (q, p)).mpr ?_, rfl⟩
        have p0 : 1 ≤ p := by
          refine Decidable.byContradiction fun z => ?_
          have := Int.mul_nonneg (show 0 ≤ -p by omega) (show 0 ≤ f by omega)
          rw [Int.neg_mul] at this
          omega
        have q0 : 0 ≤ q := by
          refine Decidable.byContradiction fun z => ?_
          have := Int.mul_le_mul_of_nonneg_right (show q ≤ -1 by omega) (show 0 ≤ f by omega)
          omega
        refine ⟨q0, Int.lt_of_mul_lt_mul_right h2 (by omega), p0, ?_, fun j j0 j1 => ?_, ?_⟩
        · have e : q * f - 1 = q * f + -1 := by omega
          rw [e, dv, show (-1 : Int) / f = -1 by
            rw [Int.neg_one_ediv, Int.sign_eq_one_of_pos hf]] at h4
          exact h4
        · have := h5 (j * f) (Int.mul_nonneg j0 (by omega)) (mono _ _ j1)
          rw [dv, Int.mul_ediv_cancel _ (by omega)] at this
          exact this
        · rw [dv, Int.mul_ediv_cancel _ (by omega)] at h6
          exact h6
end Gr

set_option Elab.async false
set_option linter.all false
set_option pp.deepTerms false
set_option pp.maxSteps 3000
set_option maxRecDepth 100000
set_option maxHeartbeats 4000000
namespace Gr
open PySem PySem.Spec PyProof.Rows L2
theorem cut_but (ks : List V) (x : V) : cutV (ks ++ [x]) none (some (-1)) = ks := by
  have e1 : HT.sIx (ks ++ [x]).length (ks ++ [x]).length (some (-1)) = ks.length := by
    show (if (-1 : Int) < 0 then ((-1 : Int) + ((ks ++ [x]).length : Int)).toNat else min (-1 : Int).toNat (ks ++ [x]).length) = ks.length
    rw [if_pos (by decide), List.length_append]
    simp
    omega
  unfold cutV
  rw [e1, HT.sIx_none]
  simp
theorem cut_from (ks : List V) (x : V) (m : Nat) (hm : m ≤ ks.length) : cutV (ks ++ [x]) (some (m : Int)) (some (-1)) = ks.drop m := by
  have e1 : HT.sIx (ks ++ [x]).length (ks ++ [x]).length (some (-1)) = ks.length := by
    show (if (-1 : Int) < 0 then ((-1 : Int) + ((ks ++ [x]).length : Int)).toNat else min (-1 : Int).toNat (ks ++ [x]).length) = ks.length
    rw [if_pos (by decide), List.length_append]
    simp
    omega
  have e2 := HT.sIx_nat (ks ++ [x]).length 0 m
  unfold cutV
  rw [e1, e2, List.length_append]
  have : min m (ks.length + [x].length) = m := by simp; omega
  rw [this, List.drop_append_of_le_length hm, List.take_append_of_le_length (by simp)]
  rw [List.take_of_length_le (by simp)]
theorem paired_drop {α β : Type} {R : α → β → Prop} : ∀ {xs : List α} {ys : List β} (n : Nat), Paired R xs ys → Paired R (xs.drop n) (ys.drop n)
  | _, _, 0, h => h
  | _, _, _ + 1, .nil => .nil
  | _, _, n + 1, .cons _ t => paired_drop n t
theorem paired_split {α β : Type} {R : α → β → Prop} : ∀ {zs : List α} {K : List β} {y : β}, Paired R zs (K ++ [y]) → ∃ ks x, zs = ks ++ [x] ∧ Paired R ks K ∧ R x y
  | _, [], _, .cons r .nil => ⟨[], _, rfl, .nil, r⟩
  | _, k :: K, _, .cons r t => by
    obtain ⟨ks, x, e, p, q⟩ := paired_split t
    exact ⟨_ :: ks, x, by rw [e]; rfl, .cons r p, q⟩
theorem none_of {H : Hp} {L D : Addr} {o : HO} (_ : H L = none) (h : (upd H L o) D = none) : H D = none := by
  by_cases e : D = L
  · subst e; rw [upd_same] at h; cases h
  · rwa [upd_ne e] at h
def spJoin : Sp := fun vs H Q _ => ∃ (g : Addr) (c : Int) (pre J : List (Int × Int)) (zs : List V), vs = [.int c, .ref g] ∧ H g = some (.lst zs) ∧ Paired (GrAt H) zs J ∧ Jn c pre J ∧ J ≠ [] ∧ J.length ≤ 6 ∧ 1 ≤ c ∧ c ≤ 10 ^ 30 ∧
  ∀ a ys A H', Same H H' → H' a = some (.lst ys) → Paired (GrAt H') ys A → Canon c (lit c pre) A → (∀ t, lit c A t = lit c pre t) → A ≠ [] → A.length ≤ 6 → Q (.ref a) H'
section
variable {P : Program} {w : World} {K : PySem.W.Frag} {mg : Str → Option Value} {base : Heap} {tC : Tok}
end
end Gr

set_option Elab.async false
set_option linter.all false
set_option pp.deepTerms false
set_option pp.maxSteps 3000
set_option maxRecDepth 100000
set_option maxHeartbeats 4000000
namespace Gr
open PySem PySem.Spec PyProof.Rows L2
def kOf (H : Hp) (x : V) : Int × Int := match x with
  | .ref t => match H t with
    | some (.tup [.int i, .int j]) => (i, j)
    | _ => (0, 0)
  | _ => (0, 0)
theorem kOf_at {H : Hp} {x : V} {g : Int × Int} (h : GrAt H x g) : kOf H x = g := by
  obtain ⟨b, rfl, e⟩ := h
  simp only [kOf, e]
theorem kOf_gr {H : Hp} : ∀ {xs : List V} {gs : List (Int × Int)}, Paired (GrAt H) xs gs → xs.map (kOf H) = gs ∧ ∀ x ∈ xs, GrAt H x (kOf H x)
  | _, _, .nil => ⟨rfl, fun _ h => (List.not_mem_nil h).elim⟩
  | _, _, .cons r t => by
    have ih := kOf_gr t
    refine ⟨by rw [List.map_cons, kOf_at r, ih.1], fun x hx => ?_⟩
    rcases List.mem_cons.mp hx with e | e
    · subst e; rw [kOf_at r]; exact r
    · exact ih.2 x e
theorem gr_of {H : Hp} : ∀ {xs : List V}, (∀ x ∈ xs, GrAt H x (kOf H x)) → Paired (GrAt H) xs (xs.map (kOf H))
  | [], _ => .nil
  | x :: xs, h => .cons (h x List.mem_cons_self) (gr_of fun y hy => h y (List.mem_cons_of_mem _ hy))
theorem lit_mem {c t : Int} {A B : List (Int × Int)} (h : ∀ g, g ∈ A ↔ g ∈ B) : lit c A t = lit c B t := by
  cases e : lit c B t with
  | true =>
    obtain ⟨g, hg, z⟩ := lit_iff.mp e
    exact lit_iff.mpr ⟨g, (h g).mpr hg, z⟩
  | false => exact lit_no.mpr fun g hg => lit_no.mp e g ((h g).mp hg)
theorem set_last {α : Type} (v x : α) : ∀ ks : List α, (ks ++ [x]).set ks.length v = ks ++ [v]
  | [] => rfl
  | k :: ks => by simp [set_last v x ks]
theorem ixN_last (ks : List V) (x : V) : ixN (ks ++ [x]).length (-1) = some ks.length := by
  unfold ixN
  rw [if_neg (by decide), if_pos (by rw [List.length_append]; simp; omega)]
  congr 1
  rw [List.length_append]; simp; omega
def ShortAt (Q : V → Hp → Prop) (c : Int) (gs : List (Int × Int)) (H : Hp) : Prop := ∀ a A H', Same H H' → SigT H' a A → Canon c (lit c gs) A → (∀ t, lit c A t = lit c gs t) → A ≠ [] → A.length ≤ 6 → Q (.ref a) H'
def spShort : Sp := fun vs H Q _ => ∃ (g : Addr) (c : Int) (gs : List (Int × Int)), vs = [.int c, .ref g] ∧ SigT H g gs ∧ OkG c gs ∧ c ≤ 10 ^ 30 ∧ ShortAt Q c gs H
section
variable {P : Program} {w : World} {K : PySem.W.Frag} {mg : Str → Option Value} {base : Heap} {tC : Tok}
theorem OkG.c1 {c : Int} {gs : List (Int × Int)} (hG : OkG c gs) : 1 ≤ c := by
  have g1 := hG.1
  match gs, g1, hG with
  | g :: _, _, hG => have := hG.2.2 g List.mem_cons_self; omega
end
end Gr

set_option Elab.async false
set_option linter.all false
set_option pp.deepTerms false
set_option pp.maxSteps 3000
set_option maxRecDepth 100000
set_option maxHeartbeats 4000000
namespace Gr
open PySem PySem.Spec PyProof.Rows L2
theorem per_add {s : Int} {f : Int → Bool} (per : ∀ t, f (t % s) = f t) (t : Int) : f (t + s) = f t := by
  rw [← per (t + s), Int.add_emod_right, per]
theorem Canon.rng {c : Int} {f : Int → Bool} {A : List (Int × Int)} (hc : 1 ≤ c) (per : ∀ t, f (t % c) = f t) (H : Canon c f A) : ∀ g ∈ A, 0 ≤ g.1 ∧ g.1 < c ∧ 1 ≤ g.2 ∧ g.2 ≤ c := by
  rcases H with ⟨_, rfl⟩ | ⟨_, _, a3⟩
  · intro g hg
    rw [List.mem_singleton.mp hg]
    simp only; omega
  · intro g hg
    obtain ⟨h1, h2, h3, h4, h5, h6⟩ := (a3 g).mp hg
    refine ⟨h1, h2, h3, Decidable.byContradiction fun z => ?_⟩
    have := h5 (g.2 - c) (by omega) (by omega)
    rw [← per_add per, show g.1 + (g.2 - c) + c = g.1 + g.2 by omega, h6] at this
    cases this
/-! ### the next and the last green moment -/
def NextAt (f : Int → Bool) (t n : Int) : Prop := t ≤ n ∧ f n = true ∧ ∀ k, t ≤ k → k < n → f k = false
def LastAt (f : Int → Bool) (t n : Int) : Prop := n ≤ t ∧ f n = true ∧ ∀ k, n < k → k ≤ t → f k = false
theorem NextAt.uniq {f : Int → Bool} {t n m : Int} (h : NextAt f t n) (k : NextAt f t m) : n = m := by
  rcases Int.lt_trichotomy n m with z | z | z
  · have := k.2.2 n h.1 z; rw [h.2.1] at this; cases this
  · exact z
  · have := h.2.2 m k.1 z; rw [k.2.1] at this; cases this
theorem LastAt.uniq {f : Int → Bool} {t n m : Int} (h : LastAt f t n) (k : LastAt f t m) : n = m := by
  rcases Int.lt_trichotomy n m with z | z | z
  · have := h.2.2 m z k.1; rw [k.2.1] at this; cases this
  · exact z
  · have := k.2.2 n z h.1; rw [h.2.1] at this; cases this
def on1 (c : Int) (g : Int × Int) (k : Int) : Bool := decide ((k - g.1) % c < g.2)
def nextG (c : Int) (g : Int × Int) (t : Int) : Int := if (t - g.1) % c < g.2 then t else t - (t - g.1) % c + c
def lastG (c : Int) (g : Int × Int) (t : Int) : Int := if (t - g.1) % c < g.2 then t else t - (t - g.1) % c + g.2 - 1
theorem emod_move {c x j : Int} (hc : 0 < c) (h0 : 0 ≤ x % c + j) (h1 : x % c + j < c) : (x + j) % c = x % c + j := by
  have e := Int.emod_add_mul_ediv x c
  have : x + j = x % c + j + c * (x / c) := by omega
  rw [this, Int.add_mul_emod_self_left, Int.emod_eq_of_lt h0 h1]
theorem nextG_ok {c t : Int} {g : Int × Int} (hc : 0 < c) (h1 : 1 ≤ g.2) : NextAt (on1 c g) t (nextG c g t) := by
  have r0 := Int.emod_nonneg (t - g.1) (show c ≠ 0 by omega)
  have r1 := Int.emod_lt_of_pos (t - g.1) hc
  unfold nextG
  split
  · rename_i z
    exact ⟨Int.le_refl _, decide_eq_true z, fun k k0 k1 => by omega⟩
  · rename_i z
    refine ⟨by omega, decide_eq_true ?_, fun k k0 k1 => decide_eq_false ?_⟩
    · have e := Int.emod_add_mul_ediv (t - g.1) c
      have : t - (t - g.1) % c + c - g.1 = 0 + c * ((t - g.1) / c + 1) := by rw [Int.mul_add, Int.mul_one]; omega
      rw [this, Int.add_mul_emod_self_left, Int.zero_emod]
      omega
    · have := emod_move (c := c) (x := t - g.1) (j := k - t) hc (by omega) (by omega)
      rw [show t - g.1 + (k - t) = k - g.1 by omega] at this
      rw [this]
      omega
theorem lastG_ok {c t : Int} {g : Int × Int} (hc : 0 < c) (h1 : 1 ≤ g.2) (h2 : g.2 ≤ c) : LastAt (on1 c g) t (lastG c g t) := by
  have r0 := Int.emod_nonneg (t - g.1) (show c ≠ 0 by omega)
  have r1 := Int.emod_lt_of_pos (t - g.1) hc
  unfold lastG
  split
  · rename_i z
    exact ⟨Int.le_refl _, decide_eq_true z, fun k k0 k1 => by omega⟩
  · rename_i z
    have mv : ∀ k, 0 ≤ (t - g.1) % c + (k - t) → (t - g.1) % c + (k - t) < c → (k - g.1) % c = (t - g.1) % c + (k - t) := fun k a b => by
      have := emod_move (c := c) (x := t - g.1) (j := k - t) hc a b
      rwa [show t - g.1 + (k - t) = k - g.1 by omega] at this
    refine ⟨by omega, decide_eq_true ?_, fun k k0 k1 => decide_eq_false ?_⟩
    · rw [mv _ (by omega) (by omega)]; omega
    · rw [mv _ (by omega) (by omega)]; omega
theorem next_min {c t m : Int} {gs : List (Int × Int)} (hG : ∀ g ∈ gs, 1 ≤ g.2) (hc : 0 < c) (hm : m ∈ gs.map fun g => nextG c g t) (le : ∀ y ∈ gs.map (fun g => nextG c g t), m ≤ y) : NextAt (lit c gs) t m := by
  obtain ⟨g, hg, rfl⟩ := List.mem_map.mp hm
  have ok := nextG_ok (t := t) hc (hG g hg)
  refine ⟨ok.1, lit_iff.mpr ⟨g, hg, of_decide_eq_true ok.2.1⟩, fun k k0 k1 => lit_no.mpr fun h hh z => ?_⟩
  have a := nextG_ok (t := t) hc (hG h hh)
  have b := le _ (List.mem_map.mpr ⟨h, hh, rfl⟩)
  have := a.2.2 k k0 (by omega)
  exact absurd z (of_decide_eq_false this)
theorem last_max {c t m : Int} {gs : List (Int × Int)} (hG : ∀ g ∈ gs, 1 ≤ g.2 ∧ g.2 ≤ c) (hc : 0 < c) (hm : m ∈ gs.map fun g => lastG c g t) (le : ∀ y ∈ gs.map (fun g => lastG c g t), y ≤ m) : LastAt (lit c gs) t m := by
  obtain ⟨g, hg, rfl⟩ := List.mem_map.mp hm
  have ok := lastG_ok (t := t) hc (hG g hg).1 (hG g hg).2
  refine ⟨ok.1, lit_iff.mpr ⟨g, hg, of_decide_eq_true ok.2.1⟩, fun k k0 k1 => lit_no.mpr fun h hh z => ?_⟩
  have a := lastG_ok (t := t) hc (hG h hh).1 (hG h hh).2
  have b := le _ (List.mem_map.mpr ⟨h, hh, rfl⟩)
  have := a.2.2 k (by omega) k1
  exact absurd z (of_decide_eq_false this)
/-! ### counting -/
def cnt (f : Int → Bool) (lo : Int) : Nat → Int
  | 0 => 0
  | n + 1 => cnt f lo n + if f (lo + n) then 1 else 0
def beforeG (c : Int) (g : Int × Int) (m : Int) : Int := (m - g.1) / c * g.2 + (if g.2 < (m - g.1) % c then g.2 else (m - g.1) % c)
theorem before_step {c m : Int} {g : Int × Int} (hc : 0 < c) (h1 : 1 ≤ g.2) (h2 : g.2 ≤ c) : beforeG c g (m + 1) = beforeG c g m + if (m - g.1) % c < g.2 then 1 else 0 := by
  have e := Int.emod_add_mul_ediv (m - g.1) c
  have r0 := Int.emod_nonneg (m - g.1) (show c ≠ 0 by omega)
  have r1 := Int.emod_lt_of_pos (m - g.1) hc
  unfold beforeG
  by_cases z : (m - g.1) % c + 1 < c
  · have em := emod_move (c := c) (x := m - g.1) (j := 1) hc (by omega) z
    have ed : (m - g.1 + 1) / c = (m - g.1) / c := by
      have : m - g.1 + 1 = ((m - g.1) % c + 1) + c * ((m - g.1) / c) := by omega
      rw [this, Int.add_mul_ediv_left _ _ (by omega), Int.ediv_eq_zero_of_lt (by omega) z, Int.zero_add]
    rw [show m + 1 - g.1 = m - g.1 + 1 by omega, em, ed]
    split <;> split <;> split <;> omega
  · have x : m - g.1 + 1 = 0 + c * ((m - g.1) / c + 1) := by rw [Int.mul_add, Int.mul_one]; omega
    rw [show m + 1 - g.1 = m - g.1 + 1 by omega, x, Int.add_mul_emod_self_left, Int.add_mul_ediv_left _ _ (by omega), Int.zero_emod, Int.zero_ediv, Int.zero_add, Int.add_mul, Int.one_mul]
    split <;> split <;> split <;> omega
theorem arcs_one {c m : Int} {f : Int → Bool} {A : List (Int × Int)} (hc : 0 < c) (per : ∀ t, f (t % c) = f t) (H : Canon c f A) : A.Pairwise fun g h => ¬ ((m - g.1) % c < g.2 ∧ (m - h.1) % c < h.2) := by
  rcases H with ⟨_, rfl⟩ | ⟨_, a2, a3⟩
  · exact List.pairwise_singleton _ _
  · have key : ∀ g h : Int × Int, IsArc c f g → IsArc c f h → (m - g.1) % c < g.2 → (m - h.1) % c < h.2 → ¬ (m - g.1) % c < (m - h.1) % c := fun g h ag ah zg zh lt => by
      have g4 := ag.2.2.2.1
      have r0 := Int.emod_nonneg (m - g.1) (show c ≠ 0 by omega)
      have y := ah.2.2.2.2.1 ((m - h.1) % c - (m - g.1) % c - 1) (by omega) (by omega)
      have eg := Int.emod_add_mul_ediv (m - g.1) c
      have eh := Int.emod_add_mul_ediv (m - h.1) c
      rw [← per] at y g4
      have : (h.1 + ((m - h.1) % c - (m - g.1) % c - 1)) % c = (g.1 - 1) % c := by
        have : h.1 + ((m - h.1) % c - (m - g.1) % c - 1) = g.1 - 1 + c * ((m - g.1) / c - (m - h.1) / c) := by rw [Int.mul_sub]; omega
        rw [this, Int.add_mul_emod_self_left]
      rw [this, g4] at y
      cases y
    refine List.Pairwise.imp_of_mem (fun {g h} hg hh lt => ?_) a2
    rintro ⟨zg, zh⟩
    have ag := (a3 g).mp hg
    have ah := (a3 h).mp hh
    have n1 := key g h ag ah zg zh
    have n2 := key h g ah ag zh zg
    have e : (m - g.1) % c = (m - h.1) % c := by omega
    have eg := Int.emod_add_mul_ediv (m - g.1) c
    have eh := Int.emod_add_mul_ediv (m - h.1) c
    have g1 := ag.1
    have g2 := ag.2.1
    have h1 := ah.1
    have h2 := ah.2.1
    -- begins differ by less than a cycle
    have d : h.1 - g.1 = c * ((m - g.1) / c - (m - h.1) / c) := by rw [Int.mul_sub]; omega
    have dm : (h.1 - g.1) % c = 0 := by rw [d, Int.mul_emod_right]
    rw [Int.emod_eq_of_lt (by omega) (by omega)] at dm
    omega
theorem sum_none {c m : Int} : ∀ {A : List (Int × Int)}, (∀ g ∈ A, ¬ (m - g.1) % c < g.2) → (A.map fun g => if (m - g.1) % c < g.2 then (1 : Int) else 0).sum = 0
  | [], _ => rfl
  | g :: A, h => by
    rw [List.map_cons, List.sum_cons, sum_none fun x hx => h x (List.mem_cons_of_mem _ hx), if_neg (h g List.mem_cons_self)]
    rfl
theorem sum_one {c m : Int} : ∀ {A : List (Int × Int)}, (A.Pairwise fun g h => ¬ ((m - g.1) % c < g.2 ∧ (m - h.1) % c < h.2)) → (A.map fun g => if (m - g.1) % c < g.2 then (1 : Int) else 0).sum = if lit c A m then 1 else 0
  | [], _ => rfl
  | g :: A, h => by
    have h' := List.pairwise_cons.mp h
    rw [List.map_cons, List.sum_cons]
    by_cases z : (m - g.1) % c < g.2
    · rw [if_pos z, sum_none fun x hx y => h'.1 x hx ⟨z, y⟩, if_pos (lit_iff.mpr ⟨g, List.mem_cons_self, z⟩)]
      rfl
    · rw [if_neg z, sum_one h'.2, Int.zero_add]
      have : lit c (g :: A) m = lit c A m := by
        unfold lit
        rw [List.any_cons, decide_eq_false z, Bool.false_or]
      rw [this]
theorem sum_sub {α : Type} {u v : α → Int} : ∀ A : List α, (A.map fun g => u g - v g).sum = (A.map u).sum - (A.map v).sum
  | [] => rfl
  | g :: A => by
    rw [List.map_cons, List.sum_cons, List.map_cons, List.sum_cons, List.map_cons, List.sum_cons, sum_sub A]
    omega
theorem sum_add {α : Type} {u v : α → Int} : ∀ A : List α, (A.map fun g => u g + v g).sum = (A.map u).sum + (A.map v).sum
  | [] => rfl
  | g :: A => by
    rw [List.map_cons, List.sum_cons, List.map_cons, List.sum_cons, List.map_cons, List.sum_cons, sum_add A]
    omega
theorem count_ok {c lo : Int} {f : Int → Bool} {A : List (Int × Int)} (hc : 0 < c) (per : ∀ t, f (t % c) = f t) (H : Canon c f A) (same : ∀ t, lit c A t = f t) : ∀ n : Nat, (A.map fun g => beforeG c g (lo + n) - beforeG c g lo).sum = cnt f lo n
  | 0 => by
    have : (fun g => beforeG c g (lo + ((0 : Nat) : Int)) - beforeG c g lo) = fun _ : Int × Int => (0 : Int) := by
      funext g
      rw [show lo + ((0 : Nat) : Int) = lo by omega]
      omega
    rw [this]
    have z : ∀ B : List (Int × Int), (B.map fun _ => (0 : Int)).sum = 0 := fun B => by
      induction B with
      | nil => rfl
      | cons g B ih => rw [List.map_cons, List.sum_cons, ih]; rfl
    exact z A
  | n + 1 => by
    have r := H.rng (by omega) per
    have ih := count_ok (lo := lo) hc per H same n
    have e : A.map (fun g => beforeG c g (lo + ((n + 1 : Nat) : Int)) - beforeG c g lo) = A.map fun g => (beforeG c g (lo + n) - beforeG c g lo) + (if (lo + n - g.1) % c < g.2 then 1 else 0) := by
      apply List.map_congr_left
      intro g hg
      have := before_step (m := lo + n) hc (r g hg).2.2.1 (r g hg).2.2.2
      rw [show lo + ((n + 1 : Nat) : Int) = lo + n + 1 by push_cast; omega, this]
      omega
    rw [e, sum_add, ih, sum_one (arcs_one hc per H), same]
    rfl
end Gr

set_option linter.all false
/-! passages: runs, the graph of their last starts, the function -/
namespace Pm
abbrev Rn := Int × Int × Int
def la (r : Rn) : Int := r.2.2 + r.2.1 - r.1
def mv (t : Int) (r : Rn) : Rn := (r.1 + t, r.2.1 + t, r.2.2 + t)
@[simp] theorem mv1 (t : Int) (r : Rn) : (mv t r).1 = r.1 + t := rfl
@[simp] theorem mv2 (t : Int) (r : Rn) : (mv t r).2.1 = r.2.1 + t := rfl
@[simp] theorem mv3 (t : Int) (r : Rn) : (mv t r).2.2 = r.2.2 + t := rfl
@[simp] theorem la_mv (t : Int) (r : Rn) : la (mv t r) = la r + t := by unfold la; simp; omega
def GoesOn (b r : Rn) : Prop := b.2.1 < r.1 ∧ la b < r.2.2
def Joins (b r : Rn) : Prop := b.2.1 + 1 = r.1 ∧ la b + 1 = r.2.2
instance (b r : Rn) : Decidable (GoesOn b r) := by unfold GoesOn; infer_instance
instance (b r : Rn) : Decidable (Joins b r) := by unfold Joins; infer_instance
def stepF (r : Rn) (x : Int) : Int := r.2.2 + (if x - r.1 > 0 then x - r.1 else 0)
structure Ok (c : Int) (rs : List Rn) : Prop where
  c1 : 1 ≤ c
  ne : rs ≠ []
  fl : ∀ r ∈ rs, r.1 ≤ r.2.1
  pw : rs.Pairwise GoesOn
  cy : ∀ a ∈ rs, ∀ b ∈ rs, GoesOn (mv (-c) a) b
/-- z is a last start, y its arrival -/
def G (c : Int) (rs : List Rn) (z y : Int) : Prop := ∃ r ∈ rs, ∃ k : Int, r.1 + k * c ≤ z ∧ z ≤ r.2.1 + k * c ∧ y = r.2.2 + z - r.1
def IsF (g : Int → Int → Prop) (x y : Int) : Prop := ∃ z, x ≤ z ∧ g z y ∧ ∀ z' y', x ≤ z' → z' < z → ¬ g z' y'
noncomputable def FG (g : Int → Int → Prop) (x : Int) : Int := Classical.epsilon (IsF g x)
noncomputable abbrev F (c : Int) (rs : List Rn) (x : Int) : Int := FG (G c rs) x
def Fun2 (g : Int → Int → Prop) : Prop := ∀ z y y', g z y → g z y' → y = y'
theorem IsF.uniq {g : Int → Int → Prop} (h : Fun2 g) {x y y' : Int} (a : IsF g x y) (b : IsF g x y') : y = y' := by
  obtain ⟨z, z0, gz, mz⟩ := a
  obtain ⟨w, w0, gw, mw⟩ := b
  rcases Int.lt_trichotomy z w with l | l | l
  · exact absurd gz (mw z y z0 l)
  · subst l; exact h _ _ _ gz gw
  · exact absurd gw (mz w y' w0 l)
theorem FG_eq {g : Int → Int → Prop} (h : Fun2 g) {x y : Int} (a : IsF g x y) : FG g x = y :=
  IsF.uniq h (Classical.epsilon_spec ⟨y, a⟩) a
theorem FG_is {g : Int → Int → Prop} {x y : Int} (a : IsF g x y) : IsF g x (FG g x) := Classical.epsilon_spec ⟨y, a⟩

theorem GoesOn.trans {a b d : Rn} (h : GoesOn a b) (hb : b.1 ≤ b.2.1) (k : GoesOn b d) : GoesOn a d := by
  unfold GoesOn la at *; omega
/-- how two runs, moved by cycles, stand to each other -/
theorem Ok.later {c : Int} {rs : List Rn} (h : Ok c rs) {a b : Rn} (ha : a ∈ rs) (hb : b ∈ rs) {i j : Int} (lt : i < j) : GoesOn (mv (i * c) a) (mv (j * c) b) := by
  have k := h.cy a ha b hb
  have c1 := h.c1
  have : c * 1 ≤ c * (j - i) := Int.mul_le_mul_of_nonneg_left (by omega) (by omega)
  rw [Int.mul_sub, Int.mul_comm c j, Int.mul_comm c i] at this
  unfold GoesOn at *
  simp only [mv1, mv2, mv3, la_mv] at *
  omega
theorem Ok.tri {c : Int} {rs : List Rn} (h : Ok c rs) {a b : Rn} (ha : a ∈ rs) (hb : b ∈ rs) : a = b ∨ GoesOn a b ∨ GoesOn b a := by
  have pw := h.pw
  clear h
  induction rs with
  | nil => cases ha
  | cons r rs ih =>
    have p := List.pairwise_cons.mp pw
    rcases List.mem_cons.mp ha with rfl | ha' <;> rcases List.mem_cons.mp hb with rfl | hb'
    · exact .inl rfl
    · exact .inr (.inl (p.1 _ hb'))
    · exact .inr (.inr (p.1 _ ha'))
    · exact ih ha' hb' p.2
/-- any two moved runs: the same one, or one behind the other -/
theorem Ok.tri2 {c : Int} {rs : List Rn} (h : Ok c rs) {a b : Rn} (ha : a ∈ rs) (hb : b ∈ rs) (i j : Int) : (a = b ∧ i = j) ∨ GoesOn (mv (i * c) a) (mv (j * c) b) ∨ GoesOn (mv (j * c) b) (mv (i * c) a) := by
  rcases Int.lt_trichotomy i j with l | l | l
  · exact .inr (.inl (h.later ha hb l))
  · subst l
    rcases h.tri ha hb with e | e | e
    · exact .inl ⟨e, rfl⟩
    · refine .inr (.inl ?_); unfold GoesOn at *; simp only [mv1, mv2, mv3, la_mv]; omega
    · refine .inr (.inr ?_); unfold GoesOn at *; simp only [mv1, mv2, mv3, la_mv]; omega
  · exact .inr (.inr (h.later hb ha l))
theorem Ok.fun2 {c : Int} {rs : List Rn} (h : Ok c rs) : Fun2 (G c rs) := by
  rintro z y y' ⟨a, ha, i, a1, a2, rfl⟩ ⟨b, hb, j, b1, b2, rfl⟩
  rcases h.tri2 ha hb i j with ⟨rfl, _⟩ | g | g
  · rfl
  · unfold GoesOn at g; simp only [mv1, mv2, mv3, la_mv] at g; omega
  · unfold GoesOn at g; simp only [mv1, mv2, mv3, la_mv] at g; omega
theorem Ok.ll {c : Int} {rs : List Rn} (h : Ok c rs) {a b : Rn} (ha : a ∈ rs) (hb : b ∈ rs) : a.2.1 - c < b.1 := by
  have := (h.cy a ha b hb).1; simp only [mv2] at this; omega
/-- a start arrives with the first run whose last start isn't ahead of it -/
theorem Ok.isF {c : Int} {pre post : List Rn} {r : Rn} (h : Ok c (pre ++ r :: post)) {x k : Int} (hp : ∀ a ∈ pre, a.2.1 + k * c < x) (hr : x ≤ r.2.1 + k * c) (hw : ∀ a ∈ pre ++ r :: post, a.2.1 + k * c - c < x) :
    IsF (G c (pre ++ r :: post)) x (stepF (mv (k * c) r) x) := by
  have hm : r ∈ pre ++ r :: post := by simp
  have fl := h.fl r hm
  have c1 := h.c1
  refine ⟨if x - (r.1 + k * c) > 0 then x else r.1 + k * c, by split <;> omega, ⟨r, hm, k, by split <;> omega, by split <;> omega, ?_⟩, ?_⟩
  · unfold stepF; simp only [mv1, mv3]; split <;> omega
  · rintro z' y' z0 z1 ⟨b, hb, j, b1, b2, -⟩
    have z2 : z' < r.1 + k * c := by revert z1; split <;> intro z1 <;> omega
    rcases h.tri2 hb hm j k with ⟨rfl, rfl⟩ | g | g
    · omega
    · -- b is ahead of r
      rcases Int.lt_trichotomy j k with l | l | l
      · have := hw b hb
        have e : (k - j) * c = k * c - j * c := Int.sub_mul ..
        have : 1 * c ≤ (k - j) * c := Int.mul_le_mul_of_nonneg_right (by omega) (by omega)
        omega
      · subst l
        rcases List.mem_append.mp hb with hb | hb
        · have := hp b hb; omega
        · rcases List.mem_cons.mp hb with rfl | hb
          · omega
          · have := (List.pairwise_cons.mp ((List.pairwise_append.mp h.pw).2.1)).1 b hb
            unfold GoesOn at this g; simp only [mv1, mv2, mv3, la_mv] at g
            have := h.fl b (by simp [hb])
            omega
      · have := h.later hm hb l
        unfold GoesOn at this; simp only [mv1, mv2, mv3, la_mv] at this
        omega
    · unfold GoesOn at g; simp only [mv1, mv2, mv3, la_mv] at g; omega
theorem Ok.F_at {c : Int} {pre post : List Rn} {r : Rn} (h : Ok c (pre ++ r :: post)) {x k : Int} (hp : ∀ a ∈ pre, a.2.1 + k * c < x) (hr : x ≤ r.2.1 + k * c) (hw : ∀ a ∈ pre ++ r :: post, a.2.1 + k * c - c < x) :
    F c (pre ++ r :: post) x = stepF (mv (k * c) r) x := FG_eq h.fun2 (h.isF hp hr hw)
/-- the first item that is so -/
theorem first_of {α : Type} {p : α → Prop} [DecidablePred p] : ∀ {l : List α}, (∃ x ∈ l, p x) → ∃ pre x post, l = pre ++ x :: post ∧ p x ∧ ∀ y ∈ pre, ¬ p y
  | [], h => by obtain ⟨x, hx, _⟩ := h; cases hx
  | a :: l, h => by
    by_cases z : p a
    · exact ⟨[], a, l, rfl, z, fun y hy => by cases hy⟩
    · obtain ⟨x, hx, px⟩ := h
      rcases List.mem_cons.mp hx with rfl | hx
      · exact absurd px z
      · obtain ⟨pre, y, post, rfl, py, no⟩ := first_of ⟨x, hx, px⟩
        exact ⟨a :: pre, y, post, rfl, py, fun w hw => by rcases List.mem_cons.mp hw with rfl | hw; exact z; exact no w hw⟩
/-- the last run has the greatest last start -/
theorem Ok.lastMax {c : Int} {pre : List Rn} {l : Rn} (h : Ok c (pre ++ [l])) : ∀ a ∈ pre ++ [l], a.2.1 ≤ l.2.1 := fun a ha => by
  rcases List.mem_append.mp ha with ha | ha
  · have := (List.pairwise_append.mp h.pw).2.2 a ha l (by simp)
    have := h.fl l (by simp)
    unfold GoesOn at *; omega
  · rw [List.mem_singleton.mp ha]; exact Int.le_refl _
/-- by how many cycles a start is to be moved -/
theorem turn_rng (c l x : Int) (hc : 1 ≤ c) : l + -((l - x) / c) * c - c < x ∧ x ≤ l + -((l - x) / c) * c := by
  have e := Int.emod_add_mul_ediv (l - x) c
  have r0 := Int.emod_nonneg (l - x) (show c ≠ 0 by omega)
  have r1 := Int.emod_lt_of_pos (l - x) (show 0 < c by omega)
  have : -((l - x) / c) * c = -(c * ((l - x) / c)) := by rw [Int.neg_mul, Int.mul_comm]
  omega
theorem Ok.ex {c : Int} {rs : List Rn} (h : Ok c rs) (x : Int) : ∃ y, IsF (G c rs) x y := by
  rcases List.eq_nil_or_concat rs with e | ⟨pre, l, e⟩
  · exact absurd e h.ne
  rw [List.concat_eq_append] at e
  subst e
  have t := turn_rng c l.2.1 x h.c1
  obtain ⟨pr, r, post, e, pr1, no⟩ := first_of (p := fun r : Rn => x ≤ r.2.1 + -((l.2.1 - x) / c) * c) (l := pre ++ [l]) ⟨l, by simp, t.2⟩
  have mx := h.lastMax
  rw [e] at h mx ⊢
  exact ⟨_, h.isF (k := -((l.2.1 - x) / c)) (fun a ha => by have := no a ha; omega) pr1 fun a ha => by have := mx a ha; omega⟩
theorem Ok.F_is {c : Int} {rs : List Rn} (h : Ok c rs) (x : Int) : IsF (G c rs) x (F c rs x) := by
  obtain ⟨y, hy⟩ := h.ex x
  exact FG_is hy
theorem G_move {c : Int} {rs : List Rn} {z y : Int} (j : Int) (h : G c rs z y) : G c rs (z + j * c) (y + j * c) := by
  obtain ⟨r, hr, k, h1, h2, rfl⟩ := h
  refine ⟨r, hr, k + j, ?_, ?_, ?_⟩ <;> (try rw [Int.add_mul]) <;> omega
theorem Ok.F_move {c : Int} {rs : List Rn} (h : Ok c rs) (x j : Int) : F c rs (x + j * c) = F c rs x + j * c := by
  obtain ⟨z, z0, gz, mz⟩ := h.F_is x
  refine FG_eq h.fun2 ⟨z + j * c, by omega, G_move j gz, fun z' y' a b g => ?_⟩
  have := G_move (-j) g
  rw [Int.neg_mul] at this
  exact mz _ _ (by omega) (by omega) this
theorem F_congr {c : Int} {A B : List Rn} (h : ∀ z y, G c A z y ↔ G c B z y) : F c A = F c B := by
  have : G c A = G c B := by funext z y; exact propext (h z y)
  unfold F; rw [this]
/-- moving single runs by cycles changes nothing -/
theorem G_same {c : Int} {A B : List Rn} (h1 : ∀ a ∈ A, ∃ j : Int, mv (j * c) a ∈ B) (h2 : ∀ b ∈ B, ∃ j : Int, mv (j * c) b ∈ A) : ∀ z y, G c A z y ↔ G c B z y := by
  have key : ∀ {A B : List Rn}, (∀ a ∈ A, ∃ j : Int, mv (j * c) a ∈ B) → ∀ z y, G c A z y → G c B z y := by
    rintro A B h z y ⟨r, hr, k, a1, a2, rfl⟩
    obtain ⟨j, hj⟩ := h r hr
    refine ⟨_, hj, k - j, ?_, ?_, ?_⟩ <;> simp only [mv1, mv2, mv3] <;> (try rw [Int.sub_mul]) <;> omega
  exact fun z y => ⟨key h1 z y, key h2 z y⟩
/-- two runs that follow one another are one -/
theorem G_join {c : Int} {pre post : List Rn} {a b : Rn} (ha : a.1 ≤ a.2.1) (hb : b.1 ≤ b.2.1) (h : Joins a b) : ∀ z y, G c (pre ++ a :: b :: post) z y ↔ G c (pre ++ (a.1, b.2.1, a.2.2) :: post) z y := by
  unfold Joins la at h
  rintro z y
  constructor
  · rintro ⟨r, hr, k, a1, a2, rfl⟩
    rcases List.mem_append.mp hr with hr | hr
    · exact ⟨r, List.mem_append_left _ hr, k, a1, a2, rfl⟩
    · rcases List.mem_cons.mp hr with rfl | hr
      · exact ⟨_, List.mem_append_right _ List.mem_cons_self, k, a1, by show z ≤ b.2.1 + k * c; omega, rfl⟩
      · rcases List.mem_cons.mp hr with rfl | hr
        · exact ⟨_, List.mem_append_right _ List.mem_cons_self, k, by show a.1 + k * c ≤ z; omega, a2, by show _ = a.2.2 + z - a.1; omega⟩
        · exact ⟨r, List.mem_append_right _ (List.mem_cons_of_mem _ hr), k, a1, a2, rfl⟩
  · rintro ⟨r, hr, k, a1, a2, rfl⟩
    rcases List.mem_append.mp hr with hr | hr
    · exact ⟨r, List.mem_append_left _ hr, k, a1, a2, rfl⟩
    · rcases List.mem_cons.mp hr with rfl | hr
      · simp only at a1 a2 ⊢
        by_cases z1 : z ≤ a.2.1 + k * c
        · exact ⟨a, by simp, k, a1, z1, rfl⟩
        · exact ⟨b, by simp, k, by omega, a2, by omega⟩
      · exact ⟨r, by simp [hr], k, a1, a2, rfl⟩
theorem Ok.join {c : Int} {pre post : List Rn} {a b : Rn} (ok : Ok c (pre ++ a :: b :: post)) (h : Joins a b) : Ok c (pre ++ (a.1, b.2.1, a.2.2) :: post) := by
  have fa := ok.fl a (by simp)
  have fb := ok.fl b (by simp)
  have e : la (a.1, b.2.1, a.2.2) = la b := by unfold Joins la at *; simp only; omega
  have mem : ∀ {r}, r ∈ pre ++ (a.1, b.2.1, a.2.2) :: post → r = (a.1, b.2.1, a.2.2) ∨ r ∈ pre ++ a :: b :: post := fun {r} hr => by
    rcases List.mem_append.mp hr with hr | hr
    · exact .inr (List.mem_append_left _ hr)
    · rcases List.mem_cons.mp hr with rfl | hr
      · exact .inl rfl
      · exact .inr (by simp [hr])
  have pw := ok.pw
  rw [List.pairwise_append] at pw
  obtain ⟨p1, p2, p3⟩ := pw
  obtain ⟨p4, p5⟩ := List.pairwise_cons.mp p2
  obtain ⟨p6, p7⟩ := List.pairwise_cons.mp p5
  refine ⟨ok.c1, by simp, fun r hr => ?_, ?_, fun r hr s hs => ?_⟩
  · rcases mem hr with rfl | hr
    · unfold Joins at h; simp only; omega
    · exact ok.fl r hr
  · rw [List.pairwise_append]
    refine ⟨p1, List.pairwise_cons.mpr ⟨fun s hs => ?_, p7⟩, fun r hr s hs => ?_⟩
    · have := p6 s hs; unfold GoesOn at *; rw [e]; exact this
    · rcases List.mem_cons.mp hs with rfl | hs
      · exact p3 r hr a (by simp)
      · exact p3 r hr s (by simp [hs])
  · have aa : a ∈ pre ++ a :: b :: post := by simp
    have bb : b ∈ pre ++ a :: b :: post := by simp
    have key : ∀ r s, (r = (a.1, b.2.1, a.2.2) ∨ r ∈ pre ++ a :: b :: post) → s ∈ pre ++ a :: b :: post → GoesOn (mv (-c) r) s := fun r s hr hs => by
      rcases hr with rfl | hr
      · have := ok.cy b bb s hs; unfold GoesOn at *; simp only [mv2, la_mv] at *; rw [e]; exact this
      · exact ok.cy r hr s hs
    rcases mem hs with rfl | hs'
    · exact key r a (mem hr) aa
    · exact key r s (mem hr) hs'
end Pm

set_option linter.all false
namespace Pm
def NoJoin (c : Int) (rs : List Rn) : Prop := ∀ r ∈ rs, ¬ G c rs (r.1 - 1) (r.2.2 - 1) ∧ ¬ G c rs (r.2.1 + 1) (la r + 1)
/-- the one form -/
def Can (c : Int) (rs : List Rn) : Prop := Ok c rs ∧ ((∃ y, rs = [(0, c - 1, y)]) ∨ ((∀ r ∈ rs, 0 ≤ r.1 ∧ r.1 < c) ∧ NoJoin c rs))
theorem full_G {c y z w : Int} (hc : 1 ≤ c) : G c [(0, c - 1, y)] z w ↔ w = y + z := by
  constructor
  · rintro ⟨r, hr, k, _, _, rfl⟩
    rw [List.mem_singleton.mp hr]; simp only; omega
  · rintro rfl
    have e := Int.emod_add_mul_ediv z c
    have r0 := Int.emod_nonneg z (show c ≠ 0 by omega)
    have r1 := Int.emod_lt_of_pos z (show 0 < c by omega)
    have e2 := Int.mul_comm c (z / c)
    refine ⟨_, List.mem_singleton.mpr rfl, z / c, ?_, ?_, ?_⟩ <;> simp only <;> omega
theorem Ok.rng_last {c : Int} {rs : List Rn} (h : Ok c rs) {r : Rn} (hr : r ∈ rs) : r.2.1 < r.1 + c := by have := h.ll hr hr; omega
/-- whoever goes on in the graph is in the run -/
theorem can_mem {c : Int} {A B : List Rn} (hA : Ok c A) (nA : NoJoin c A) (gA : ∀ r ∈ A, 0 ≤ r.1 ∧ r.1 < c) (hB : Ok c B) (nB : NoJoin c B) (gB : ∀ r ∈ B, 0 ≤ r.1 ∧ r.1 < c) (h : ∀ z y, G c A z y ↔ G c B z y) {r : Rn} (hr : r ∈ A) : r ∈ B := by
  have fl := hA.fl r hr
  have c1 := hA.c1
  obtain ⟨s, hs, k, s1, s2, s3⟩ := (h r.1 r.2.2).mp ⟨r, hr, 0, by omega, by omega, by omega⟩
  have fs := hB.fl s hs
  have e1 : s.1 + k * c = r.1 := by
    refine Int.le_antisymm s1 (Decidable.byContradiction fun z => (nA r hr).1 ((h _ _).mpr ⟨s, hs, k, by omega, by omega, by omega⟩))
  have k0 : k = 0 := by
    have a := gA r hr
    have b := gB s hs
    rcases Int.lt_trichotomy k 0 with l | l | l
    · have : k * c ≤ -1 * c := Int.mul_le_mul_of_nonneg_right (by omega) (by omega)
      omega
    · exact l
    · have : 1 * c ≤ k * c := Int.mul_le_mul_of_nonneg_right (by omega) (by omega)
      omega
  subst k0
  have e2 : s.2.2 = r.2.2 := by omega
  have e3 : s.2.1 = r.2.1 := by
    refine Int.le_antisymm (Decidable.byContradiction fun z => ?_) (Decidable.byContradiction fun z => ?_)
    · exact (nA r hr).2 ((h _ _).mpr ⟨s, hs, 0, by omega, by omega, by unfold la; omega⟩)
    · exact (nB s hs).2 ((h _ _).mp ⟨r, hr, 0, by omega, by omega, by unfold la; omega⟩)
  have : r = s := by
    rcases r with ⟨a, b, d⟩
    rcases s with ⟨a', b', d'⟩
    simp only at e1 e2 e3
    subst e2; subst e3
    have : a = a' := by omega
    rw [this]
  rw [this]; exact hs
theorem sorted_uniq {α : Type} (k : α → Int) : ∀ {A B : List α}, A.Pairwise (fun x y => k x < k y) → B.Pairwise (fun x y => k x < k y) → (∀ x, x ∈ A ↔ x ∈ B) → A = B
  | [], [], _, _, _ => rfl
  | [], b :: B, _, _, h => by have := (h b).mpr (by simp); cases this
  | a :: A, [], _, _, h => by have := (h a).mp (by simp); cases this
  | a :: A, b :: B, pa, pb, h => by
    have qa := List.pairwise_cons.mp pa
    have qb := List.pairwise_cons.mp pb
    have e : a = b := by
      rcases List.mem_cons.mp ((h a).mp (by simp)) with e | m
      · exact e
      · rcases List.mem_cons.mp ((h b).mpr (by simp)) with e | m'
        · exact e.symm
        · have := qb.1 a m; have := qa.1 b m'; omega
    subst e
    rw [sorted_uniq k qa.2 qb.2 fun x => ⟨fun m => ?_, fun m => ?_⟩]
    · rcases List.mem_cons.mp ((h x).mp (List.mem_cons_of_mem _ m)) with rfl | m'
      · have := qa.1 x m; omega
      · exact m'
    · rcases List.mem_cons.mp ((h x).mpr (List.mem_cons_of_mem _ m)) with rfl | m'
      · have := qb.1 x m; omega
      · exact m'
theorem Ok.pw1 {c : Int} {rs : List Rn} (h : Ok c rs) : rs.Pairwise fun a b => a.1 < b.1 :=
  h.pw.imp_of_mem fun {a b} ha _ g => by have := h.fl a ha; unfold GoesOn at g; omega
theorem Can.uniq {c : Int} {A B : List Rn} (hA : Can c A) (hB : Can c B) (h : ∀ z y, G c A z y ↔ G c B z y) : A = B := by
  have c1 := hA.1.c1
  have nf : ∀ {X : List Rn} {y : Int}, Ok c X → NoJoin c X → (∀ z w, G c X z w ↔ w = y + z) → False := fun {X y} ok n g => by
    match X, ok.ne with
    | r :: X, _ =>
      refine (n r (by simp)).2 ((g _ _).mpr ?_)
      have fl := ok.fl r (by simp)
      have := (g r.2.1 (la r)).mp ⟨r, by simp, 0, by omega, by omega, by unfold la; omega⟩
      omega
  rcases hA with ⟨oA, ⟨y, rfl⟩ | ⟨gA, nA⟩⟩ <;> rcases hB with ⟨oB, ⟨y', rfl⟩ | ⟨gB, nB⟩⟩
  · have := (h 0 y).mp ((full_G c1).mpr (by omega))
    have := (full_G c1).mp this
    rw [show y = y' by omega]
  · exact (nf oB nB fun z w => ((h z w).symm.trans (full_G c1))).elim
  · exact (nf oA nA fun z w => ((h z w).trans (full_G c1))).elim
  · exact sorted_uniq (fun r : Rn => r.1) oA.pw1 oB.pw1 fun x => ⟨can_mem oA nA gA oB nB gB h, can_mem oB nB gB oA nA gA fun z y => (h z y).symm⟩
/-! ### neighbours that don't join -/
def NJ : List Rn → Prop
  | a :: b :: r => ¬ Joins a b ∧ NJ (b :: r)
  | _ => True
theorem NJ.snoc : ∀ {K : List Rn} {l r : Rn}, NJ (K ++ [l]) → ¬ Joins l r → NJ (K ++ [l] ++ [r])
  | [], l, r, _, h => ⟨h, trivial⟩
  | [a], l, r, n, h => ⟨n.1, h, trivial⟩
  | a :: b :: K, l, r, n, h => ⟨n.1, NJ.snoc (K := b :: K) n.2 h⟩
theorem NJ.relast : ∀ {K : List Rn} {l l' : Rn}, NJ (K ++ [l]) → l'.1 = l.1 → l'.2.2 = l.2.2 → NJ (K ++ [l'])
  | [], l, l', _, _, _ => trivial
  | [a], l, l', n, h1, h2 => ⟨by have := n.1; unfold Joins at *; rw [h1, h2]; exact this, trivial⟩
  | a :: b :: K, l, l', n, h1, h2 => ⟨n.1, NJ.relast (K := b :: K) n.2 h1 h2⟩
theorem NJ.at : ∀ {p : List Rn} {a b : Rn} {q : List Rn}, NJ (p ++ a :: b :: q) → ¬ Joins a b
  | [], a, b, q, n => n.1
  | [x], a, b, q, n => n.2.1
  | x :: y :: p, a, b, q, n => NJ.at (p := y :: p) n.2
theorem NJ.tail : ∀ {a : Rn} {q : List Rn}, NJ (a :: q) → NJ q
  | a, [], _ => trivial
  | a, b :: q, n => n.2
theorem goes_asym {a b : Rn} (ha : a.1 ≤ a.2.1) (hb : b.1 ≤ b.2.1) (h : GoesOn a b) (k : GoesOn b a) : False := by
  unfold GoesOn at *; omega
theorem nojoin {c : Int} {rs : List Rn} (h : Ok c rs) (n : NJ rs) (w : ∀ a q l, rs = a :: q → rs.getLast? = some l → ¬ Joins l (mv c a)) : NoJoin c rs := by
  have up : ∀ r ∈ rs, ¬ G c rs (r.2.1 + 1) (la r + 1) := by
    rintro r hr ⟨s, hs, k, s1, s2, s3⟩
    have fr := h.fl r hr
    have fs := h.fl s hs
    have z0 : (0 : Int) * c = 0 := Int.zero_mul c
    have g : GoesOn (mv (0 * c) r) (mv (k * c) s) := by
      rcases h.tri2 hr hs 0 k with ⟨rfl, rfl⟩ | g | g
      · omega
      · exact g
      · unfold GoesOn at g; simp only [mv1, mv2, mv3, la_mv] at g; omega
    have g' := g
    unfold GoesOn at g'; simp only [mv1, mv2, mv3, la_mv] at g'
    have j : Joins r (mv (k * c) s) := by unfold Joins; unfold la at *; simp only [mv1, mv2, mv3]; omega
    have k0 : 0 ≤ k := Decidable.byContradiction fun z => by
      have := h.later hs hr (show k < 0 by omega)
      exact goes_asym (by simp only [mv1, mv2]; omega) (by simp only [mv1, mv2]; omega) g this
    -- nothing lies between r and s
    have sq : ∀ b ∈ rs, ∀ i : Int, GoesOn (mv (0 * c) r) (mv (i * c) b) → GoesOn (mv (i * c) b) (mv (k * c) s) → False := fun b hb i h1 h2 => by
      have := h.fl b hb
      unfold GoesOn at h1 h2; unfold Joins at j; simp only [mv1, mv2, mv3, la_mv] at h1 h2 j; omega
    obtain ⟨p, q, e⟩ := List.append_of_mem hr
    have pw := h.pw
    rw [e, List.pairwise_append] at pw
    have pp : ∀ b ∈ p, GoesOn b r := fun b hb => pw.2.2 b hb r (by simp)
    have before : ∀ b ∈ p, ¬ (s = b ∧ k = 0) := fun b hb ⟨e1, e2⟩ => by
      subst e1; subst e2
      have := pp s hb
      exact goes_asym (by simp only [mv1, mv2]; omega) (by simp only [mv1, mv2]; omega) g (by unfold GoesOn at *; simp only [mv1, mv2, mv3, la_mv]; omega)
    have self : ¬ (s = r ∧ k = 0) := fun ⟨e1, e2⟩ => by subst e1; subst e2; unfold GoesOn at g; simp only [mv1, mv2, mv3, la_mv] at g; omega
    match q, e with
    | [], e =>
      match rs, e, h, n, w, hr, hs, sq with
      | a :: t, e, h, n, w, hr, hs, sq =>
        have jl := w a t r rfl (by rw [e, List.getLast?_concat])
        have k1 : k = 1 := by
          rcases Int.lt_trichotomy k 1 with l | l | l
          · exfalso
            have k0' : k = 0 := by omega
            rw [e] at hs
            rcases List.mem_append.mp hs with m | m
            · exact before s m ⟨rfl, k0'⟩
            · exact self ⟨List.mem_singleton.mp m, k0'⟩
          · exact l
          · exact (sq a (by simp) 1 (h.later hr (by simp) (by omega)) (h.later (by simp) hs l)).elim
        subst k1
        rcases h.tri2 (show a ∈ a :: t by simp) hs 1 1 with ⟨e1, _⟩ | g2 | g2
        · subst e1; rw [Int.one_mul] at j; exact jl j
        · exact sq a (by simp) 1 (h.later hr (by simp) (by omega)) g2
        · -- s ahead of the head
          have fa := h.fl a (by simp)
          rcases List.mem_cons.mp hs with rfl | m
          · exact goes_asym (by simp only [mv1, mv2]; omega) (by simp only [mv1, mv2]; omega) g2 g2
          · have := (List.pairwise_cons.mp h.pw).1 s m
            exact goes_asym (by simp only [mv1, mv2]; omega) (by simp only [mv1, mv2]; omega) g2 (by unfold GoesOn at *; simp only [mv1, mv2, mv3, la_mv]; omega)
    | b :: q, e =>
      have hb : b ∈ rs := by rw [e]; simp
      have fb := h.fl b hb
      have rb : GoesOn r b := (List.pairwise_cons.mp pw.2.1).1 b (by simp)
      have rb' : GoesOn (mv (0 * c) r) (mv (0 * c) b) := by unfold GoesOn at *; simp only [mv1, mv2, mv3, la_mv]; omega
      have nj : ¬ Joins r b := by rw [e] at n; exact n.at
      rcases Int.lt_trichotomy 0 k with l | l | l
      · exact sq b hb 0 rb' (h.later hb hs l)
      · subst l
        rcases h.tri2 hb hs 0 0 with ⟨e1, _⟩ | g2 | g2
        · subst e1; apply nj; unfold Joins at *; simp only [mv1, mv2, mv3] at j; omega
        · exact sq b hb 0 rb' g2
        · rw [e] at hs
          rcases List.mem_append.mp hs with m | m
          · exact before s m ⟨rfl, rfl⟩
          · rcases List.mem_cons.mp m with rfl | m
            · exact self ⟨rfl, rfl⟩
            · rcases List.mem_cons.mp m with rfl | m
              · exact goes_asym (by simp only [mv1, mv2]; omega) (by simp only [mv1, mv2]; omega) g2 g2
              · have := (List.pairwise_cons.mp (List.pairwise_cons.mp pw.2.1).2).1 s m
                exact goes_asym (by simp only [mv1, mv2]; omega) (by simp only [mv1, mv2]; omega) g2 (by unfold GoesOn at *; simp only [mv1, mv2, mv3, la_mv]; omega)
      · omega
  refine fun r hr => ⟨?_, up r hr⟩
  rintro ⟨s, hs, k, s1, s2, s3⟩
  have fr := h.fl r hr
  have fs := h.fl s hs
  rcases h.tri2 hs hr k 0 with ⟨rfl, rfl⟩ | g | g
  · omega
  · unfold GoesOn at g; simp only [mv1, mv2, mv3, la_mv] at g
    refine up s hs ⟨r, hr, -k, ?_, ?_, ?_⟩ <;> (try rw [Int.neg_mul]) <;> unfold la at * <;> omega
  · unfold GoesOn at g; simp only [mv1, mv2, mv3, la_mv] at g; omega
end Pm

set_option linter.all false
namespace Pm
/-- a run moved so that it begins in the first cycle -/
def home (c : Int) (r : Rn) : Rn := mv (-(r.1 / c * c)) r
theorem home_mv (c : Int) (r : Rn) : home c r = mv (-(r.1 / c) * c) r := by unfold home; rw [Int.neg_mul]
theorem home_rng {c : Int} (hc : 1 ≤ c) (r : Rn) : 0 ≤ (home c r).1 ∧ (home c r).1 < c := by
  have e := Int.emod_add_mul_ediv r.1 c
  have r0 := Int.emod_nonneg r.1 (show c ≠ 0 by omega)
  have r1 := Int.emod_lt_of_pos r.1 (show 0 < c by omega)
  have e2 := Int.mul_comm c (r.1 / c)
  unfold home; simp only [mv1]; omega
theorem goes_mv {t : Int} {a b : Rn} (h : GoesOn a b) : GoesOn (mv t a) (mv t b) := by unfold GoesOn at *; simp only [mv1, mv2, mv3, la_mv]; omega
theorem mv_mv (s t : Int) (r : Rn) : mv s (mv t r) = mv (t + s) r := by unfold mv; simp only [Prod.mk.injEq]; omega
theorem home_inj {c : Int} {X : List Rn} (h : Ok c X) {a b : Rn} (ha : a ∈ X) (hb : b ∈ X) (g : GoesOn a b) : (home c a).1 ≠ (home c b).1 := by
  have fa := h.fl a ha
  have fb := h.fl b hb
  intro e
  rw [home_mv, home_mv] at e
  rcases h.tri2 ha hb (-(a.1 / c)) (-(b.1 / c)) with ⟨e1, _⟩ | k | k
  · subst e1; exact goes_asym fa fa g g
  · unfold GoesOn at k; simp only [mv1, mv2, mv3, la_mv] at k e; omega
  · unfold GoesOn at k; simp only [mv1, mv2, mv3, la_mv] at k e; omega
/-- sorted at home: the same passage -/
theorem ok_sorted {c : Int} {X Z : List Rn} (h : Ok c X) (p : Z.Perm (X.map (home c))) (s : Z.Pairwise fun a b => a.1 ≤ b.1) : Ok c Z ∧ (∀ z y, G c X z y ↔ G c Z z y) ∧ (∀ r ∈ Z, 0 ≤ r.1 ∧ r.1 < c) := by
  have c1 := h.c1
  have mem : ∀ z ∈ Z, ∃ x ∈ X, z = mv (-(x.1 / c) * c) x := fun z hz => by
    obtain ⟨x, hx, e⟩ := List.mem_map.mp (p.mem_iff.mp hz)
    exact ⟨x, hx, by rw [← e, home_mv]⟩
  have rng : ∀ r ∈ Z, 0 ≤ r.1 ∧ r.1 < c := fun r hr => by
    obtain ⟨x, hx, e⟩ := List.mem_map.mp (p.mem_iff.mp hr)
    rw [← e]; exact home_rng c1 x
  have ne1 : Z.Pairwise fun a b => a.1 ≠ b.1 := by
    have : (X.map (home c)).Pairwise fun a b => a.1 ≠ b.1 := by
      rw [List.pairwise_map]
      exact h.pw.imp_of_mem fun {a b} ha hb g => home_inj h ha hb g
    exact this.perm p.symm (fun {a b} e => Ne.symm e)
  refine ⟨⟨c1, ?_, ?_, ?_, ?_⟩, G_same (fun a ha => ⟨-(a.1 / c), p.mem_iff.mpr (List.mem_map.mpr ⟨a, ha, home_mv c a⟩)⟩) fun b hb => ?_, rng⟩
  · intro e
    rw [e] at p
    have := p.length_eq
    rw [List.length_map] at this
    have h0 := h.ne
    cases X <;> simp at this h0
  · intro r hr
    obtain ⟨x, hx, rfl⟩ := mem r hr
    have := h.fl x hx
    simp only [mv1, mv2]; omega
  · refine ((s.and ne1).imp_of_mem fun {a b} ha hb k => ?_)
    obtain ⟨x, hx, rfl⟩ := mem a ha
    obtain ⟨y, hy, rfl⟩ := mem b hb
    rcases h.tri2 hx hy (-(x.1 / c)) (-(y.1 / c)) with ⟨e1, e2⟩ | g | g
    · subst e1; exact absurd rfl k.2
    · exact g
    · have := h.fl x hx
      have := h.fl y hy
      unfold GoesOn at g; simp only [mv1, mv2, mv3, la_mv] at g k; omega
  · intro a ha b hb
    have ra := rng a ha
    have rb := rng b hb
    obtain ⟨x, hx, rfl⟩ := mem a ha
    obtain ⟨y, hy, rfl⟩ := mem b hb
    have e : mv (-c) (mv (-(x.1 / c) * c) x) = mv ((-(x.1 / c) - 1) * c) x := by rw [mv_mv, Int.sub_mul, Int.one_mul, Int.sub_eq_add_neg]
    rw [e]
    rcases h.tri2 hx hy (-(x.1 / c) - 1) (-(y.1 / c)) with ⟨e1, e2⟩ | g | g
    · subst e1; omega
    · exact g
    · have := h.fl x hx
      have := h.fl y hy
      rw [← e] at g
      unfold GoesOn at g; simp only [mv1, mv2, mv3, la_mv] at g ra rb; omega
  · obtain ⟨x, hx, rfl⟩ := mem b hb
    refine ⟨x.1 / c, ?_⟩
    rw [mv_mv, Int.neg_mul, show -(x.1 / c * c) + x.1 / c * c = 0 by omega]
    have : mv 0 x = x := by unfold mv; rcases x with ⟨a, b, d⟩; simp
    rw [this]; exact hx
theorem nojoin_same {c : Int} {X Z : List Rn} (n : NoJoin c X) (p : Z.Perm (X.map (home c))) (g : ∀ z y, G c X z y ↔ G c Z z y) : NoJoin c Z := fun r hr => by
  obtain ⟨x, hx, e⟩ := List.mem_map.mp (p.mem_iff.mp hr)
  rw [home_mv] at e
  subst e
  have := n x hx
  refine ⟨fun q => this.1 ?_, fun q => this.2 ?_⟩
  · have q2 := G_move (x.1 / c) ((g _ _).mpr q)
    simp only [mv1, mv2, mv3, la_mv, Int.neg_mul] at q2
    rwa [show x.1 + -(x.1 / c * c) - 1 + x.1 / c * c = x.1 - 1 by omega, show x.2.2 + -(x.1 / c * c) - 1 + x.1 / c * c = x.2.2 - 1 by omega] at q2
  · have q2 := G_move (x.1 / c) ((g _ _).mpr q)
    simp only [mv1, mv2, mv3, la_mv, Int.neg_mul] at q2
    rwa [show x.2.1 + -(x.1 / c * c) + 1 + x.1 / c * c = x.2.1 + 1 by omega, show la x + -(x.1 / c * c) + 1 + x.1 / c * c = la x + 1 by omega] at q2
theorem G_perm {c : Int} {A B : List Rn} (h : ∀ r, r ∈ A ↔ r ∈ B) : ∀ z y, G c A z y ↔ G c B z y := fun z y =>
  ⟨fun ⟨r, hr, q⟩ => ⟨r, (h r).mp hr, q⟩, fun ⟨r, hr, q⟩ => ⟨r, (h r).mpr hr, q⟩⟩
/-- the first run put behind the others -/
theorem ok_rot {c : Int} {a : Rn} {q : List Rn} (h : Ok c (a :: q)) : Ok c (q ++ [mv c a]) ∧ ∀ z y, G c (a :: q) z y ↔ G c (q ++ [mv c a]) z y := by
  have c1 := h.c1
  have m : ∀ r ∈ q ++ [mv c a], r ∈ q ∨ r = mv c a := fun r hr => by
    rcases List.mem_append.mp hr with x | x
    · exact .inl x
    · exact .inr (List.mem_singleton.mp x)
  have am : a ∈ a :: q := by simp
  refine ⟨⟨c1, by simp, fun r hr => ?_, ?_, fun r hr s hs => ?_⟩, G_same (fun r hr => ?_) fun r hr => ?_⟩
  · rcases m r hr with x | rfl
    · exact h.fl r (List.mem_cons_of_mem _ x)
    · have := h.fl a am; simp only [mv1, mv2]; omega
  · rw [List.pairwise_append]
    refine ⟨(List.pairwise_cons.mp h.pw).2, List.pairwise_singleton _ _, fun r hr s hs => ?_⟩
    rw [List.mem_singleton.mp hs]
    have := h.cy r (List.mem_cons_of_mem _ hr) a am
    unfold GoesOn at *; simp only [mv1, mv2, mv3, la_mv] at *; omega
  · have back : mv (-c) (mv c a) = a := by rw [mv_mv, show c + -c = 0 by omega]; unfold mv; rcases a with ⟨x, y, z⟩; simp
    rcases m r hr with x | rfl <;> rcases m s hs with y | rfl
    · exact h.cy r (List.mem_cons_of_mem _ x) s (List.mem_cons_of_mem _ y)
    · have := h.cy r (List.mem_cons_of_mem _ x) a am
      unfold GoesOn at *; simp only [mv1, mv2, mv3, la_mv] at *; omega
    · rw [back]
      exact (List.pairwise_cons.mp h.pw).1 s y
    · rw [back]
      have := h.cy a am a am
      unfold GoesOn at *; simp only [mv1, mv2, mv3, la_mv] at *; omega
  · rcases List.mem_cons.mp hr with rfl | x
    · exact ⟨1, by rw [Int.one_mul]; simp⟩
    · exact ⟨0, by
        have : mv (0 * c) r = r := by rw [Int.zero_mul]; unfold mv; rcases r with ⟨x, y, z⟩; simp
        rw [this]; exact List.mem_append_left _ x⟩
  · rcases m r hr with x | rfl
    · exact ⟨0, by
        have : mv (0 * c) r = r := by rw [Int.zero_mul]; unfold mv; rcases r with ⟨x, y, z⟩; simp
        rw [this]; exact List.mem_cons_of_mem _ x⟩
    · exact ⟨-1, by
        have : mv (-1 * c) (mv c a) = a := by rw [mv_mv, show c + -1 * c = 0 by omega]; unfold mv; rcases a with ⟨x, y, z⟩; simp
        rw [this]; exact am⟩
/-- one run over the whole cycle -/
theorem ok_full {c : Int} {a : Rn} {q : List Rn} (h : Ok c (a :: q)) (e : a.2.1 - a.1 = c - 1) : q = [] := by
  match q, h with
  | [], _ => rfl
  | b :: q, h =>
    have g := (List.pairwise_cons.mp h.pw).1 b (by simp)
    have k := h.cy b (by simp) a (by simp)
    have := h.fl b (by simp)
    unfold GoesOn at g k; simp only [mv1, mv2] at k; omega
theorem can_full {c : Int} {a : Rn} (h : Ok c [a]) (e : a.2.1 - a.1 = c - 1) : Can c [(0, c - 1, a.2.2 - a.1)] ∧ ∀ z y, G c [a] z y ↔ G c [(0, c - 1, a.2.2 - a.1)] z y := by
  have c1 := h.c1
  refine ⟨⟨⟨c1, by simp, fun r hr => by rw [List.mem_singleton.mp hr]; simp only; omega, List.pairwise_singleton _ _, fun r hr s hs => by
    rw [List.mem_singleton.mp hr, List.mem_singleton.mp hs]; unfold GoesOn la; simp only [mv1, mv2, mv3]; omega⟩, .inl ⟨_, rfl⟩⟩, fun z y => ?_⟩
  rw [full_G c1]
  constructor
  · rintro ⟨r, hr, k, _, _, rfl⟩
    rw [List.mem_singleton.mp hr]; omega
  · rintro rfl
    have e1 := Int.emod_add_mul_ediv (z - a.1) c
    have r0 := Int.emod_nonneg (z - a.1) (show c ≠ 0 by omega)
    have r1 := Int.emod_lt_of_pos (z - a.1) (show 0 < c by omega)
    have e2 := Int.mul_comm c ((z - a.1) / c)
    exact ⟨a, by simp, (z - a.1) / c, by omega, by omega, by omega⟩
/-- joined over the end of the cycle -/
theorem ok_wrap {c : Int} {a l : Rn} {m : List Rn} (h : Ok c (a :: (m ++ [l]))) (n : NJ (a :: (m ++ [l]))) (j : Joins l (mv c a)) :
    Ok c (m ++ [(l.1, a.2.1 + c, l.2.2)]) ∧ NoJoin c (m ++ [(l.1, a.2.1 + c, l.2.2)]) ∧ ∀ z y, G c (a :: (m ++ [l])) z y ↔ G c (m ++ [(l.1, a.2.1 + c, l.2.2)]) z y := by
  obtain ⟨o1, g1⟩ := ok_rot h
  rw [List.append_assoc] at o1 g1
  have o2 := Ok.join (pre := m) (post := []) o1 j
  have g2 := G_join (c := c) (pre := m) (post := []) (h.fl l (by simp)) (by have := h.fl a (by simp); simp only [mv1, mv2]; omega) j
  have eR : (l.1, (mv c a).2.1, l.2.2) = (l.1, a.2.1 + c, l.2.2) := rfl
  rw [eR] at o2 g2
  refine ⟨o2, nojoin o2 ?_ ?_, fun z y => (g1 z y).trans (g2 z y)⟩
  · exact NJ.relast n.tail rfl rfl
  · rintro b q l' e1 e2 jj
    rw [List.getLast?_concat] at e2
    cases e2
    have eL : la (l.1, a.2.1 + c, l.2.2) = la a + c := by unfold Joins at j; unfold la at *; simp only [mv1, mv3] at *; omega
    match m, e1 with
    | [], e1 =>
      simp only [List.nil_append, List.cons.injEq] at e1
      obtain ⟨rfl, rfl⟩ := e1
      have nn : ¬ Joins a l := n.1
      apply nn
      unfold Joins at *; rw [eL] at jj; simp only [mv1, mv3] at jj; omega
    | b' :: m, e1 =>
      simp only [List.cons_append, List.cons.injEq] at e1
      obtain ⟨rfl, rfl⟩ := e1
      have nn : ¬ Joins a b' := n.1
      apply nn
      unfold Joins at *; rw [eL] at jj; simp only [mv1, mv3] at jj; omega
theorem nojoin_plain {c : Int} {a l : Rn} {m : List Rn} (h : Ok c (a :: m)) (n : NJ (a :: m)) (hl : (a :: m).getLast? = some l) (j : ¬ Joins l (mv c a)) : NoJoin c (a :: m) :=
  nojoin h n fun a' q l' e1 e2 => by
    cases e1
    rw [hl] at e2
    cases e2
    exact j
theorem can_sorted {c : Int} {X Z : List Rn} (h : Ok c X) (n : NoJoin c X) (p : Z.Perm (X.map (home c))) (s : Z.Pairwise fun a b => a.1 ≤ b.1) : Can c Z ∧ ∀ z y, G c X z y ↔ G c Z z y := by
  obtain ⟨o, g, r⟩ := ok_sorted h p s
  exact ⟨⟨o, .inr ⟨r, nojoin_same n p g⟩⟩, g⟩
end Pm

set_option Elab.async false
set_option linter.all false
set_option maxRecDepth 100000
set_option maxHeartbeats 4000000
/-! sorted of tuples of d ints each, any number of them -/
namespace TsO
open PySem PyProof.Rows Srt SrtO TS
def lexL : List Int → List Int → Bool
  | x :: xs, y :: ys => if x = y then lexL xs ys else decide (x < y)
  | _, _ => false
theorem lexL_asym : ∀ xs ys : List Int, lexL xs ys = true → lexL ys xs = false
  | [], _, h => by cases h
  | _ :: _, [], h => by cases h
  | x :: xs, y :: ys, h => by
    unfold lexL at h ⊢
    by_cases e : x = y
    · subst e; rw [if_pos rfl] at h ⊢; exact lexL_asym xs ys h
    · rw [if_neg e] at h; rw [if_neg (fun q => e q.symm)]
      have := of_decide_eq_true h
      exact decide_eq_false (by omega)
theorem lexL_tr : ∀ (d : Nat) (xs ys zs : List Int), xs.length = d → ys.length = d → zs.length = d → lexL ys xs = false → lexL zs ys = false → lexL zs xs = false
  | 0, xs, ys, zs, h1, h2, h3, _, _ => by
    rw [List.length_eq_zero_iff.mp h3]; rfl
  | d + 1, x :: xs, y :: ys, z :: zs, h1, h2, h3, a, b => by
    unfold lexL at a b ⊢
    by_cases e1 : y = x
    · subst e1
      rw [if_pos rfl] at a
      by_cases e2 : z = y
      · subst e2
        rw [if_pos rfl] at b ⊢
        exact lexL_tr d xs ys zs (by simpa using h1) (by simpa using h2) (by simpa using h3) a b
      · rw [if_neg e2] at b ⊢; exact b
    · rw [if_neg e1] at a
      have a' := of_decide_eq_false a
      by_cases e2 : z = y
      · subst e2; rw [if_neg e1]; exact a
      · rw [if_neg e2] at b
        have b' := of_decide_eq_false b
        rw [if_neg (by omega)]
        exact decide_eq_false (by omega)
  | _ + 1, [], _, _, h, _, _, _, _ => by cases h
  | _ + 1, _ :: _, [], _, _, h, _, _, _ => by cases h
  | _ + 1, _ :: _, _ :: _, [], _, _, h, _, _ => by cases h
/-- by the first of d ints of each -/
def kd (k : Value → List Int) (d : Nat) (v : Value) : List Int := (k v ++ List.replicate d 0).take d
theorem kd_len (k : Value → List Int) (d : Nat) (v : Value) : (kd k d v).length = d := by unfold kd; simp
theorem kd_eq {k : Value → List Int} {d : Nat} {v : Value} (h : (k v).length = d) : kd k d v = k v := by unfold kd; rw [List.take_left' h]
theorem swo_lexL (k : Value → List Int) (d : Nat) : Swo fun v u => lexL (kd k d v) (kd k d u) :=
  ⟨fun x y h => lexL_asym _ _ h, fun x y z a b => lexL_tr d _ _ _ (kd_len ..) (kd_len ..) (kd_len ..) a b⟩
section
variable {prog : Program} {w : World} {A : Around} {E : Value → Shared → Prop} {s : Shared} {Q : Bool → Shared → Prop}
theorem lexL_kat {b : Bool} {xs ys : List Value} {ns ms : List Int} (i : Nat) (hx : IntsAre xs ns) (hy : IntsAre ys ms) (hl : ns.length = ms.length) (h : Q (lexL ns ms) s) : PySem.W.KatLex prog w A b false Q (xs.zip ys) i s := by
  induction hx generalizing ys ms i with
  | nil =>
    cases hy with
    | nil => exact PySem.W.kat_nil h
    | cons q u hy => simp at hl
  | @cons p t xs ns hx ih =>
    cases hy with
    | nil => simp at hl
    | @cons q u ys ms hy =>
      have hl' : ns.length = ms.length := by simpa using hl
      show PySem.W.KatLex prog w A b false Q ((Value.int p t, Value.int q u) :: xs.zip ys) i s
      refine PySem.W.kat_cons (wpAny_eqBool_int ?_)
      unfold lexL at h
      by_cases e : p = q
      · subst e
        rw [beq_self_eq_true]
        rw [if_pos rfl] at h
        refine PySem.W.kat_yes ?_
        first
          | exact ih (i + 1) hy hl' h
          | exact ih _ _ (i + 1) hy hl' h
      · rw [show (p == q) = false from beq_eq_false_iff_ne.mpr e]
        rw [if_neg e] at h
        exact PySem.W.kat_no (oneLt_ints _ h)
theorem ia_len {vs : List Value} {ns : List Int} (h : IntsAre vs ns) : vs.length = ns.length := by induction h with | nil => rfl | cons n t h ih => simp [ih]
theorem tups_cmp {vs : List Value} {k : Value → List Int} {d : Nat} (hp : ∀ v ∈ vs, TupInts s.heap v (k v) ∧ (k v).length = d) : Cmp prog w A s (tuples' true) (fun p => p.1 ∈ vs) (lt2 fun v u => lexL (kd k d v) (kd k d u)) := by
  intro p q hm hm'
  obtain ⟨⟨a, xs, e, ⟨o, ho, hc, n, hd⟩, i⟩, hl⟩ := hp _ hm
  obtain ⟨⟨a', xs', e', ⟨o', ho', hc', n', hd'⟩, i'⟩, hl'⟩ := hp _ hm'
  show wpAny (model prog w) A (keyLt' (tuples' true) p.1 q.1) (fun r s' => s' = s ∧ r = lexL (kd k d p.1) (kd k d q.1)) (fun _ _ => False) s
  rw [kd_eq hl, kd_eq hl']
  generalize k p.1 = u at i hl ⊢
  generalize k q.1 = v at i' hl' ⊢
  rw [e, e']
  refine PySem.W.kat_lt ho hd ho' hd' ?_
  have ls : xs.size = xs'.size := by
    have h1 := ia_len i
    have h2 := ia_len i'
    simp only [Array.length_toList] at h1 h2
    omega
  rw [show decide (xs.size < xs'.size) = false from decide_eq_false (by omega)]
  exact lexL_kat 0 i i' (by omega) ⟨rfl, rfl⟩
theorem tups_firsts {h : Heap} {k : Value → List Int} {d : Nat} (h1 : 1 ≤ d) : ∀ {vs : List Value}, (∀ v ∈ vs, TupInts h v (k v) ∧ (k v).length = d) → ∃ fs : List Value, PySem.W.KatTups h vs fs ∧ fs.length = vs.length ∧ ∀ f ∈ fs, ∃ x t, f = Value.int x t
  | [], _ => ⟨[], PySem.W.KatTups.nil, rfl, fun _ hm => by simp at hm⟩
  | v :: vs, hp => by
    obtain ⟨fs, g1, g2, g3⟩ := tups_firsts h1 (vs := vs) fun v' hm => hp v' (List.mem_cons_of_mem _ hm)
    obtain ⟨⟨a, xs, e, ⟨o, ho, hc, n, hd⟩, i⟩, hl⟩ := hp v (List.mem_cons_self ..)
    subst e
    obtain ⟨x, t, ys, hx⟩ : ∃ x t ys, xs.toList = Value.int x t :: ys := by
      generalize xs.toList = zs at i
      generalize k (Value.ref a) = ns at i hl
      cases i with
      | nil => simp at hl; omega
      | cons x t i => exact ⟨x, t, _, rfl⟩
    refine ⟨.int x t :: fs, PySem.W.KatTups.cons ho hc hd ?_ g1, by rw [List.length_cons, List.length_cons, g2], fun f hm => ?_⟩
    · have z := congrArg (fun l : List Value => l[0]?) hx
      simpa using z
    · rcases List.mem_cons.mp hm with rfl | hm
      · exact ⟨x, t, rfl⟩
      · exact g3 f hm
theorem tups_sortable {a : Addr} {vs : List Value} {k : Value → List Int} {d : Nat} (h1 : 1 ≤ d) (h0 : 0 < vs.length) (hp : ∀ v ∈ vs, TupInts s.heap v (k v) ∧ (k v).length = d) (ha : ∀ o, s.heap.get? a = some o → o.cls ≠ .type "tuple") : SortableO prog w A s a vs fun v u => lexL (kd k d v) (kd k d u) := by
  intro h' keep
  have hp' : ∀ v ∈ vs, TupInts h' v (k v) ∧ (k v).length = d := fun v hm => ⟨(hp v hm).1.keeps fun b o e c => keep b o (fun z => by subst z; exact ha o e c) e, (hp v hm).2⟩
  obtain ⟨fs, g1, g2, g3⟩ := tups_firsts h1 hp'
  refine ⟨tuples' true, fun Q E hq => ?_, tups_cmp hp'⟩
  refine PySem.W.kat_kind (T := .type "int") g1 (by omega) (fun f hm => ?_) (by rfl) ?_
  · obtain ⟨x, t, rfl⟩ := g3 f hm
    exact PySem.W.Looks.now
  · have e : (Value.type "int" != Value.type "tuple") = true := by first | decide +kernel | rfl | decide
    rw [e]
    exact hq
theorem sorted_tups {l : Addr} {vs : List Value} {k : Value → List Int} {d : Nat} {Q : Value → Shared → Prop} (h1 : 1 ≤ d) (hl : s.heap.IsList l vs.toArray) (hz : vs.length ≤ sizeLine) (hp : ∀ v ∈ vs, TupInts s.heap v (k v) ∧ (k v).length = d)
    (h : ∀ (h' : Heap) (e : Addr) (out : List Value), Srtd (fun v u => lexL (kd k d v) (kd k d u)) out → out.Perm vs → (∀ b o, s.heap.get? b = some o → h'.get? b = some o) → s.heap.objs.size ≤ e → (∃ n, h'.get? e = some (seqObj "list" out.toArray n)) → Q (.ref e) { s with heap := h' }) :
    wpAny (model prog w) A (call (.builtin "sorted") [.ref l]) Q E s := by
  refine sorted_ord (swo_lexL k d) hl hz (fun h2 h₁ a ha kk => ?_) fun out hs hb => ?_
  · refine tups_sortable (s := { s with heap := h₁ }) h1 (by omega) (fun v hm => ⟨(hp v hm).1.keeps fun b o e _ => (kk b o e).2, (hp v hm).2⟩) fun o e => ?_
    have e' : some o = some (seqObj "list" vs.toArray 0) := e.symm.trans ha
    cases e'
    intro c
    exact absurd (Value.type.inj c) (by decide)
  · exact h _ _ out hs hb.perm (fun b o e => sortedAll_old e) (Nat.le_succ _) (sortedAll_at s.heap vs out.toArray)
end
end TsO
namespace L2
open PySem PySem.Spec PyProof.Rows
/-- sorted(xs), xs a list of tuples of d ints each (k says which): a new list -/
def rSortedTs (K : PySem.W.Frag) : List V → Hp → VK → Prop := fun vs H Q => ∃ (a : Addr) (xs : List V) (k : V → List Int) (d : Nat), vs = [V.ref a] ∧ SqL K H a xs ∧ 1 ≤ d ∧ (∀ x ∈ xs, (k x).length = d ∧ ∃ t, x = V.ref t ∧ H t = some (.tup ((k x).map V.int))) ∧
  ∀ ys p, ys.Perm xs → ys.Pairwise (fun x y => TsO.lexL (k y) (k x) = false) → H p = none → Q (.ref p) (upd H p (.lst ys))
theorem ints_ofT {ns : List Int} : ∀ {us : List Value}, Vals (ns.map V.int) us → IntsAre us ns := by
  induction ns with
  | nil => intro us r; cases r; exact .nil
  | cons n ns ih =>
    intro us r
    rw [List.map_cons] at r
    cases r with
    | cons r1 rr =>
      obtain ⟨t, rfl⟩ := r1
      exact .cons n t (ih rr)
section
variable {X : Cx}
theorem cr_sortedTs : CallR X (.builtin "sorted") (rSortedTs X.K) := by
  intro pins s σ H vs us Q I r h
  obtain ⟨a, xs, k, d, rfl, hs, h1, hx, q⟩ := h
  obtain ⟨its, rv, hl, hz⟩ := I.list hs
  obtain ⟨u, rfl, ru⟩ := vals1 r
  obtain rfl : u = Value.ref a := ru
  obtain ⟨e1, e2⟩ := refs_back rv fun x m => by
    obtain ⟨_, t, e, _⟩ := hx x m
    exact ⟨t, e⟩
  have hk : ∀ v ∈ its, (k (backV v)).length = d ∧ ∃ t, v = .ref t ∧ H t = some (.tup ((k (backV v)).map V.int)) := fun v hv => by
    obtain ⟨t, rfl⟩ := e2 v hv
    have hm : V.ref t ∈ xs := by rw [e1]; exact List.mem_map.mpr ⟨_, hv, rfl⟩
    obtain ⟨hl', t', e, ht⟩ := hx _ hm
    cases e
    exact ⟨hl', t, rfl, ht⟩
  refine TsO.sorted_tups (k := fun u => k (backV u)) (d := d) h1 hl.isList (by rw [← rv.length]; exact hz) (fun v hv => ?_) fun h' e out s1 p1 kp hd hn => ?_
  · obtain ⟨hl', t, rfl, ht⟩ := hk v hv
    obtain ⟨_, its2, r2, o, ho, hc, n, hd⟩ := I.hok _ _ ht
    refine ⟨⟨t, its2.toArray, rfl, ⟨o, ho, hc, n, hd⟩, ?_⟩, hl'⟩
    rw [List.toList_toArray]
    exact ints_ofT r2
  · have h3 : ∀ u ∈ out, ∃ a, u = Value.ref a := fun u hu => e2 u (p1.mem_iff.mp hu)
    obtain ⟨n, hn⟩ := hn
    have hb : (out.map backV).Perm xs := by
      rw [e1]
      exact p1.map backV
    refine ⟨.ref e, upd H e (.lst (out.map backV)), I.laid (t' := s.toks) kp hd ⟨?_, out, n, vals_back h3, hn⟩, rfl, q _ e hb ?_ (I.hok.fresh hd)⟩
    · rw [hb.length_eq]; exact hz
    · rw [List.pairwise_map]
      refine s1.imp_of_mem fun {u v} hu hv z => ?_
      have hku := (hk u (p1.mem_iff.mp hu)).1
      have hkv := (hk v (p1.mem_iff.mp hv)).1
      have z' : TsO.lexL (TsO.kd (fun u => k (backV u)) d v) (TsO.kd (fun u => k (backV u)) d u) = false := z
      rw [TsO.kd_eq (k := fun u => k (backV u)) hku, TsO.kd_eq (k := fun u => k (backV u)) hkv] at z'
      exact z'
end
end L2

set_option Elab.async false
set_option linter.all false
set_option maxRecDepth 100000
set_option maxHeartbeats 4000000
/-! list(zip(a, b)), a and b lists or tuples in any mix -/
namespace LzO
open PySem PySem.W
theorem zip_no_len : typeLookup (.type "zip") "__len__" = pure none := by rw [typeLookup_type, builtinLookup_eq_fast]; kernel_rfl
theorem zip_no_hint : typeLookup (.type "zip") "__length_hint__" = pure none := by rw [typeLookup_type, builtinLookup_eq_fast]; kernel_rfl
section
variable {prog : Program} {w : World} {A : Around} {E : Value → Shared → Prop} {s : Shared} {z TI TO i1 i2 T : Addr} {f : Bool} {oT : Obj} {fp1 fp2 : List Addr} {n1 n2 i : Nat} {P1 P2 : Nat → Value → Prop} {St1 St2 : Nat → Heap → Prop}
theorem next_held {Q : Value → Shared → Prop} (S : ZipSep2 z TI TO i1 i2 fp1 fp2) (D1 : Draws prog w A i1 fp1 n1 P1 St1) (D2 : Draws prog w A i2 fp2 n2 P2 St2)
    (hz : IsZipHeld s.heap z TI TO T f) (hT : s.heap.get? T = some oT) (hTI : IsTupOf2 s.heap TI (.ref i1) (.ref i2)) (st1 : St1 i s.heap) (st2 : St2 i s.heap) (hlt1 : i < n1) (hlt2 : i < n2)
    (hQ : ∀ x1 x2 h' tk, P1 i x1 → P2 i x2 → IsZipHeld h' z TI TO T true → St1 (i + 1) h' → St2 (i + 1) h' → IsTupOf2 h' s.heap.objs.size x1 x2 → h'.objs.size = s.heap.objs.size + 1 →
      (∀ c o, c ≠ z → c ≠ i1 → c ≠ i2 → s.heap.get? c = some o → h'.get? c = some o) → Q (.ref s.heap.objs.size) { s with heap := h', toks := tk }) :
    wpAny (model prog w) A (Builtin.«zip.__next__» ⟨[.ref z], []⟩) (fun fin s' => ∃ v, fin = .done (.ret v) ∧ Q v s') E s := by
  obtain ⟨hp, g, d, tk0, os⟩ := s
  show wpAny _ _ (field (.ref z) 2 >>= _) _ _ _
  refine wpAny_bind (wpAny_field hz rfl (x := .bool false) rfl ?_)
  show wpAny _ _ (field (.ref z) 3 >>= _) _ _ _
  refine wpAny_bind (wpAny_field hz rfl (x := .ref TI) rfl ?_)
  refine wpAny_bind (wpAny_seqItems hTI rfl ?_)
  show wpAny _ _ (Builtin.SmallTypes.ownedTupleIsFree (.ref z) >>= _) _ _ _
  refine wpAny_bind (wpAny_tupleHeld_zip hz hT fun h₁ hz₁ hs₁ => ?_)
  replace hs₁ : Heap.SameBut z hp h₁ := hs₁
  simp only [Bool.false_eq_true, if_false]
  refine wpAny_bind ?_
  rw [← Array.forIn_toList]
  simp only [List.forIn_cons, List.forIn_nil]
  refine wpAny_bind (wpAny_bind (wpAny_holding ?_))
  show wpAny _ _ (Builtin.SmallTypes.nextOf (.ref i1) >>= _) _ _ ⟨h₁, g, d, tk0, os⟩
  refine wpAny_bind (D1.item i _ _ _ hlt1 (D1.over st1 hs₁ S.zf1) fun x1 p1 tk1 hx1 sn1 hp1 => wpAny_pure ?_)
  replace hp1 : Heap.SameBut i1 h₁ p1 := hp1
  refine wpAny_pure ?_
  refine wpAny_bind (wpAny_bind (wpAny_holding ?_))
  show wpAny _ _ (Builtin.SmallTypes.nextOf (.ref i2) >>= _) _ _ ⟨p1, g, d, tk1, os⟩
  refine wpAny_bind (D2.item i _ _ _ hlt2 (D2.over (D2.over st2 hs₁ S.zf2) hp1 S.sep1_2) fun x2 p2 tk2 hx2 sn2 hp2 => wpAny_pure ?_)
  replace hp2 : Heap.SameBut i2 p1 p2 := hp2
  refine wpAny_pure (wpAny_pure ?_)
  show wpAny _ _ (newTuple [x1, x2] >>= _) _ _ ⟨p2, g, d, tk2, os⟩
  refine wpAny_bind (wpAny_newTuple ?_)
  have hsz : p2.objs.size = hp.objs.size := by rw [hp2.1, hp1.1, hs₁.1]
  have hz₃ : IsZipHeld p2 z TI TO T true := hp2.extBut _ _ S.zi2 (hp1.extBut _ _ S.zi1 hz₁)
  have hk : ∀ c o, c ≠ z → c ≠ i1 → c ≠ i2 → hp.get? c = some o → p2.get? c = some o := fun c o c1 c2 c3 e => hp2.extBut _ _ c3 (hp1.extBut _ _ c2 (hs₁.extBut _ _ c1 e))
  have j1 : St1 (i + 1) p2 := D1.over sn1 hp2 S.sep2_1
  refine wpAny_pure ⟨_, rfl, ?_⟩
  show Q (.ref p2.objs.size) ⟨p2.push { cls := .type "tuple", data := .seq #[x1, x2] }, g, d, tk2, os⟩
  have hp' : IsTupOf2 (p2.push { cls := .type "tuple", data := .seq #[x1, x2] }) p2.objs.size x1 x2 := Heap.get?_push_size _ rfl
  have hz4 : (p2.push { cls := .type "tuple", data := .seq #[x1, x2] }).objs.size = p2.objs.size + 1 := Heap.size_push ..
  rw [hsz] at hp' hz4 ⊢
  exact hQ x1 x2 _ tk2 hx1 hx2 (Heap.get?_push_of_some _ hz₃) (D1.frame _ _ _ j1 fun b _ o e => Heap.get?_push_of_some _ e) (D2.frame _ _ _ sn2 fun b _ o e => Heap.get?_push_of_some _ e) hp' hz4 fun c o c1 c2 c3 e => Heap.get?_push_of_some _ (hk c o c1 c2 c3 e)
theorem end_held {Q : Fin → Shared → Prop} (S : ZipSep2 z TI TO i1 i2 fp1 fp2) (D1 : Draws prog w A i1 fp1 n1 P1 St1)
    (hz : IsZipHeld s.heap z TI TO T f) (hT : s.heap.get? T = some oT) (hTI : IsTupOf2 s.heap TI (.ref i1) (.ref i2)) (st1 : St1 n1 s.heap)
    (hE : ∀ h' e, (∀ c o, c ≠ z → c ≠ i1 → s.heap.get? c = some o → h'.get? c = some o) → (∃ o, h'.get? e = some o ∧ o.cls = .type "StopIteration") → E (.ref e) { s with heap := h' }) :
    wpAny (model prog w) A (Builtin.«zip.__next__» ⟨[.ref z], []⟩) Q E s := by
  obtain ⟨hp, g, d, tk0, os⟩ := s
  show wpAny _ _ (field (.ref z) 2 >>= _) _ _ _
  refine wpAny_bind (wpAny_field hz rfl (x := .bool false) rfl ?_)
  show wpAny _ _ (field (.ref z) 3 >>= _) _ _ _
  refine wpAny_bind (wpAny_field hz rfl (x := .ref TI) rfl ?_)
  refine wpAny_bind (wpAny_seqItems hTI rfl ?_)
  show wpAny _ _ (Builtin.SmallTypes.ownedTupleIsFree (.ref z) >>= _) _ _ _
  refine wpAny_bind (wpAny_tupleHeld_zip hz hT fun h₁ hz₁ hs₁ => ?_)
  replace hs₁ : Heap.SameBut z hp h₁ := hs₁
  simp only [Bool.false_eq_true, if_false]
  refine wpAny_bind ?_
  rw [← Array.forIn_toList]
  simp only [List.forIn_cons, List.forIn_nil]
  refine wpAny_bind (wpAny_bind (wpAny_holding ?_))
  show wpAny _ _ (Builtin.SmallTypes.nextOf (.ref i1) >>= _) _ _ ⟨h₁, g, d, tk0, os⟩
  refine wpAny_bind (D1.done _ _ _ (D1.over st1 hs₁ S.zf1) fun h₂ e hs₂ he => ?_)
  exact hE h₂ e (fun c o c1 c2 x => hs₂ _ _ c2 (hs₁.extBut _ _ c1 x)) he
theorem pyNext_held {Q : Option Value → Shared → Prop} (S : ZipSep2 z TI TO i1 i2 fp1 fp2) (D1 : Draws prog w A.in1 i1 fp1 n1 P1 St1) (D2 : Draws prog w A.in1 i2 fp2 n2 P2 St2)
    (hz : IsZipHeld s.heap z TI TO T f) (hT : s.heap.get? T = some oT) (hTI : IsTupOf2 s.heap TI (.ref i1) (.ref i2)) (st1 : St1 i s.heap) (st2 : St2 i s.heap) (hlt1 : i < n1) (hlt2 : i < n2)
    (hQ : ∀ x1 x2 h' tk, P1 i x1 → P2 i x2 → IsZipHeld h' z TI TO T true → St1 (i + 1) h' → St2 (i + 1) h' → IsTupOf2 h' s.heap.objs.size x1 x2 → h'.objs.size = s.heap.objs.size + 1 →
      (∀ c o, c ≠ z → c ≠ i1 → c ≠ i2 → s.heap.get? c = some o → h'.get? c = some o) → Q (some (.ref s.heap.objs.size)) { s with heap := h', toks := tk }) :
    wpAny (model prog w) A (pyNext (.ref z)) Q E s := by
  have hTy : s.TypeIs (.ref z) "zip" := ⟨_, hz, rfl⟩
  unfold pyNext
  exact wpAny_bind (wpAny_attempt (wpAny_callSpecial?_slot (name := Str.ofString "__next__") hTy F.slot_zip_next
    (wpAny_call_entry F.slot_zip_next hTy F.entry_zip_next
      (next_held S D1 D2 hz hT hTI st1 st2 hlt1 hlt2 fun x1 x2 h' tk y1 y2 b1 d1 d2 b5 b6 b7 => wpAny_pure (hQ x1 x2 h' tk y1 y2 b1 d1 d2 b5 b6 b7)) (F.args_zip_next_1 _))))
theorem pyEnd_held {Q : Option Value → Shared → Prop} (S : ZipSep2 z TI TO i1 i2 fp1 fp2) (D1 : Draws prog w A.in1 i1 fp1 n1 P1 St1)
    (hz : IsZipHeld s.heap z TI TO T f) (hT : s.heap.get? T = some oT) (hTI : IsTupOf2 s.heap TI (.ref i1) (.ref i2)) (st1 : St1 n1 s.heap)
    (hQ : ∀ h', (∀ c o, c ≠ z → c ≠ i1 → s.heap.get? c = some o → h'.get? c = some o) → Q none { s with heap := h' }) : wpAny (model prog w) A (pyNext (.ref z)) Q E s := by
  have hTy : s.TypeIs (.ref z) "zip" := ⟨_, hz, rfl⟩
  unfold pyNext
  refine wpAny_bind (wpAny_attempt (wpAny_callSpecial?_slot (name := Str.ofString "__next__") hTy F.slot_zip_next
    (wpAny_call_entry F.slot_zip_next hTy F.entry_zip_next (end_held S D1 hz hT hTI st1 fun h' e hk he => ?_) (F.args_zip_next_1 _))))
  obtain ⟨o, ho, hc⟩ := he
  refine wpAny_bind (wpAny_isInstance (T := "StopIteration") (b := true) ⟨o, ho, hc⟩ isSubtype_stop ?_)
  exact wpAny_pure (hQ _ hk)
/-- the zip's cells ahead of turn i -/
def ZSt (z TI TO i1 i2 : Addr) (base : Nat) (St1 St2 : Nat → Heap → Prop) (i : Nat) (h : Heap) : Prop := IsTupOf2 h TI (.ref i1) (.ref i2) ∧ St1 i h ∧ St2 i h ∧
  ((IsZip h z TI TO .none ∧ ∃ a1 a2, IsTupOf2 h TO a1 a2) ∨ ∃ (T : Nat) (f : Bool) (oT : Obj), IsZipHeld h z TI TO T f ∧ h.get? T = some oT ∧ base ≤ T)
/-- what has been made -/
structure Got (P1 P2 : Nat → Value → Prop) (base i : Nat) (h : Heap) (as : List Addr) : Prop where
  len : as.length = i
  asc : as.Pairwise fun a b : Nat => a < b
  rng : ∀ a ∈ as, base ≤ (a : Nat)
  at_ : ∀ j a, as[j]? = some a → ∃ x y, P1 j x ∧ P2 j y ∧ IsTupOf2 h a x y
theorem Got.moved {base i : Nat} {h h' : Heap} {as : List Addr} (g : Got P1 P2 base i h as) (hk : ∀ b : Nat, base ≤ b → ∀ o, h.get? b = some o → h'.get? b = some o) : Got P1 P2 base i h' as :=
  ⟨g.len, g.asc, g.rng, fun j a e => by
    obtain ⟨x, y, p, q, t⟩ := g.at_ j a e
    exact ⟨x, y, p, q, hk a (g.rng a (List.mem_of_getElem? e)) _ t⟩⟩
theorem Got.push {base i : Nat} {h h' : Heap} {as : List Addr} {x y : Value} (g : Got P1 P2 base i h as) (hb : base ≤ h.objs.size) (hk : ∀ b : Nat, base ≤ b → ∀ o, h.get? b = some o → h'.get? b = some o) (px : P1 i x) (py : P2 i y) (ht : IsTupOf2 h' h.objs.size x y) :
    Got P1 P2 base (i + 1) h' (as ++ [h.objs.size]) := by
  have g' := g.moved (h' := h') hk
  refine ⟨by rw [List.length_append, g.len]; rfl, ?_, fun a m => ?_, fun j a e => ?_⟩
  · rw [List.pairwise_append]
    refine ⟨g.asc, List.pairwise_singleton _ _, fun a ha b hb' => ?_⟩
    rw [List.mem_singleton.mp hb']
    obtain ⟨j, hj⟩ := List.mem_iff_getElem?.mp ha
    obtain ⟨_, _, _, _, t⟩ := g.at_ j a hj
    exact Heap.lt_size t
  · rcases List.mem_append.mp m with m | m
    · exact g'.rng a m
    · rw [List.mem_singleton.mp m]
      exact hb
  · by_cases hj : j < as.length
    · rw [List.getElem?_append_left hj] at e
      exact g'.at_ j a e
    · rw [List.getElem?_append_right (by omega)] at e
      have hj2 : j - as.length = 0 := by
        have := (List.getElem?_eq_some_iff.mp e).1
        simp at this
        exact this
      rw [hj2] at e
      cases e
      have : j = i := by have := g.len; omega
      subst this
      exact ⟨x, y, px, py, ht⟩
end
section
variable {prog : Program} {w : World} {A : Around} {R : Result → Shared → Prop} {z TI TO i1 i2 S : Addr} {fp1 fp2 : List Addr} {n base : Nat} {P1 P2 : Nat → Value → Prop} {St1 St2 : Nat → Heap → Prop}
theorem zl_loop (hh : A.handled = none) (Z : ZipSep2 z TI TO i1 i2 fp1 fp2) (D1 : Draws prog w A.in1.in1 i1 fp1 n P1 St1) (D2 : Draws prog w A.in1.in1 i2 fp2 n P2 St2) (hn : n ≤ sizeLine) (res : Value)
    (Sz : S ≠ z) (STI : S ≠ TI) (STO : S ≠ TO) (Sf1 : S ∉ fp1) (Sf2 : S ∉ fp2) (bz : (z : Nat) < base) (bO : (TO : Nat) < base) (b1 : (i1 : Nat) < base) (b2 : (i2 : Nat) < base) (bS : (S : Nat) < base) :
    ∀ (k i : Nat) (s : Shared) (as : List Addr) (c : Nat), n - i = k → i ≤ n → ZSt z TI TO i1 i2 base St1 St2 i s.heap → s.heap.get? S = some { cls := .type "list", dict := none, data := .seq (as.map Value.ref).toArray c, slots := #[] } → Got P1 P2 base i s.heap as → base ≤ s.heap.objs.size →
    (∀ (h' : Heap) (tk : Nat) (as' : List Addr) (c' : Nat), (∀ b o, b ≠ S → b ≠ z → b ≠ TO → b ≠ i1 → b ≠ i2 → s.heap.get? b = some o → h'.get? b = some o) → h'.get? S = some { cls := .type "list", dict := none, data := .seq (as'.map Value.ref).toArray c', slots := #[] } → Got P1 P2 base n h' as' → R (.ok (.ret res)) { s with heap := h', toks := tk }) →
    codeAny (model prog w) A (.builtin "list.extend.loop" ⟨[.ref S, .ref z, res], []⟩) R s := by
  have Si1 : S ≠ i1 := fun e => Sf1 (e ▸ Z.mem1)
  have Si2 : S ≠ i2 := fun e => Sf2 (e ▸ Z.mem2)
  have up : ∀ {b : Nat}, base ≤ b → (b : Addr) ≠ z ∧ (b : Addr) ≠ TO ∧ (b : Addr) ≠ i1 ∧ (b : Addr) ≠ i2 ∧ (b : Addr) ≠ S := fun {b} hb =>
    ⟨Nat.ne_of_gt (Nat.lt_of_lt_of_le bz hb), Nat.ne_of_gt (Nat.lt_of_lt_of_le bO hb), Nat.ne_of_gt (Nat.lt_of_lt_of_le b1 hb), Nat.ne_of_gt (Nat.lt_of_lt_of_le b2 hb), Nat.ne_of_gt (Nat.lt_of_lt_of_le bS hb)⟩
  intro k
  induction k with
  | zero =>
    intro i s as c hk hi hst hS hg hb hR
    have hin : i = n := by omega
    subst hin
    refine codeAny_builtin F.entry_extend_loop ?_
    rw [Around.under_plainId F.plain_extend_loop _]
    show wpAny _ A.in1 (pyNext (.ref z) >>= _) _ _ s
    refine wpAny_bind ?_
    obtain ⟨hTI, st1, st2, ⟨hz, a1, a2, hTO⟩ | ⟨T, f, oT, hz, hT, hTS⟩⟩ := hst
    · refine wpAny_pyNext_zipD2_end Z D1 D2 hz hTI hTO st1 st2 (Nat.le_refl _) (Nat.le_refl _) (.inl rfl) fun h' tk hk => ?_
      refine wpAny_pure (hR h' tk as c (fun b o c1 c2 c3 c4 c5 e => hk b o c2 c3 c4 c5 e) (hk S _ Sz STO Si1 Si2 hS) (hg.moved fun b hb' o e => ?_))
      obtain ⟨u1, u2, u3, u4, u5⟩ := up hb'
      exact hk _ o u1 u2 u3 u4 e
    · refine pyEnd_held Z D1 hz hT hTI st1 fun h' hk => ?_
      refine wpAny_pure (hR h' s.toks as c (fun b o c1 c2 c3 c4 c5 e => hk b o c2 c4 e) (hk S _ Sz Si1 hS) (hg.moved fun b hb' o e => ?_))
      obtain ⟨u1, u2, u3, u4, u5⟩ := up hb'
      exact hk _ o u1 u3 e
  | succ k ih =>
    intro i s as c hk hi hst hS hg hb hR
    have hlt : i < n := by omega
    refine codeAny_builtin F.entry_extend_loop ?_
    rw [Around.under_plainId F.plain_extend_loop _]
    show wpAny _ A.in1 (pyNext (.ref z) >>= _) _ _ s
    refine wpAny_bind ?_
    have lz : as.length = i := hg.len
    -- the same for both ways in which the zip makes its tuple
    have go : ∀ (h' : Heap) (tk : Nat), ZSt z TI TO i1 i2 base St1 St2 (i + 1) h' → (∀ b o, b ≠ z → b ≠ TO → b ≠ i1 → b ≠ i2 → s.heap.get? b = some o → h'.get? b = some o) → Got P1 P2 base (i + 1) h' (as ++ [s.heap.objs.size]) → h'.objs.size = s.heap.objs.size + 1 →
        wpAny (model prog w) A.in1 (do updateSeq S (·.push (.ref s.heap.objs.size)); again (.builtin "list.extend.loop" ⟨[.ref S, .ref z, res], []⟩))
          (fun fin s' => match fin with | .done f => R (.ok f) s' | .again c' => c'.quiet = true ∧ codeAny (model prog w) A c' R s') (fun e s' => R (.error e) s') { s with heap := h', toks := tk } := by
      intro h' tk zs hk' hg' hsz
      have hS' := hk' S _ Sz STO Si1 Si2 hS
      have e0 : (h'.update S (Obj.mapSeq (·.push (Value.ref s.heap.objs.size)))).get? S = some { cls := .type "list", dict := none, data := .seq ((as.map Value.ref).toArray.push (Value.ref s.heap.objs.size)) _, slots := #[] } := Heap.get?_update_self _ hS' rfl
      rw [show (as.map Value.ref).toArray.push (Value.ref s.heap.objs.size) = ((as ++ [s.heap.objs.size]).map Value.ref).toArray by simp] at e0
      have oth : ∀ b o, b ≠ S → h'.get? b = some o → (h'.update S (Obj.mapSeq (·.push (.ref s.heap.objs.size)))).get? b = some o := fun b o hb' e => (Heap.get?_update_other _ _ (Ne.symm hb')).trans e
      have zs' : ZSt z TI TO i1 i2 base St1 St2 (i + 1) (h'.update S (Obj.mapSeq (·.push (.ref s.heap.objs.size)))) := by
        obtain ⟨hTI, st1, st2, zz⟩ := zs
        refine ⟨oth _ _ (Ne.symm STI) hTI, D1.frame _ _ _ st1 fun b hb' o e => oth b o (fun q => Sf1 (q ▸ hb')) e, D2.frame _ _ _ st2 fun b hb' o e => oth b o (fun q => Sf2 (q ▸ hb')) e, ?_⟩
        rcases zz with ⟨hz, a1, a2, hTO⟩ | ⟨T, f, oT, hz, hT, hTb⟩
        · exact .inl ⟨oth _ _ (Ne.symm Sz) hz, a1, a2, oth _ _ (Ne.symm STO) hTO⟩
        · exact .inr ⟨T, f, oT, oth _ _ (Ne.symm Sz) hz, oth _ _ (up hTb).2.2.2.2 hT, hTb⟩
      refine wpAny_bind (wpAny_updateSeq hS' rfl (wpAny_pure ⟨plainId_quiet F.plain_extend_loop _, ih (i + 1) _ (as ++ [s.heap.objs.size]) _ (by omega) hlt zs' e0 (hg'.moved fun b hb' o e => oth b o (up hb').2.2.2.2 e) (by show base ≤ (h'.update S _).objs.size; rw [Heap.size_update]; omega) fun h2 tk2 as2 c2 hk2 hS2 hg2 =>
        hR h2 tk2 as2 c2 (fun b o c1 c2' c3 c4 c5 e => hk2 b o c1 c2' c3 c4 c5 (oth b o c1 (hk' b o c2' c3 c4 c5 e))) hS2 hg2⟩) ?_ ?_)
      · show (as.map Value.ref).toArray.size ≤ sizeLine
        simp only [List.size_toArray, List.length_map]; omega
      · show ((as.map Value.ref).toArray.push _).size ≤ sizeLine + 1
        simp only [Array.size_push, List.size_toArray, List.length_map]; omega
    have hne : (s.heap.objs.size : Nat) ≠ S := Nat.ne_of_gt (Heap.lt_size hS)
    obtain ⟨hTI, st1, st2, ⟨hz, a1, a2, hTO⟩ | ⟨T, f, oT, hz, hT, hTS⟩⟩ := hst
    · refine wpAny_pyNext_zipD2_item Z D1 D2 hz hTI hTO st1 st2 hlt hlt fun x1 x2 h' tk y1 y2 b1' b2' d1 d2 b5 b6 hk' => ?_
      refine go h' tk ⟨hk' _ _ Z.TIz Z.TITO Z.TIi1 Z.TIi2 hTI, d1, d2, .inr ⟨_, false, _, b1', b5, hb⟩⟩ hk' (hg.push hb (fun b hb' o e => ?_) y1 y2 b5) b6
      obtain ⟨u1, u2, u3, u4, u5⟩ := up hb'
      exact hk' _ o u1 u2 u3 u4 e
    · refine pyNext_held Z D1 D2 hz hT hTI st1 st2 hlt hlt fun x1 x2 h' tk y1 y2 b1' d1 d2 b5 b6 hk' => ?_
      obtain ⟨v1, v2, v3, v4, v5⟩ := up hTS
      refine go h' tk ⟨hk' _ _ Z.TIz Z.TIi1 Z.TIi2 hTI, d1, d2, .inr ⟨_, true, oT, b1', hk' _ _ v1 v3 v4 hT, hTS⟩⟩ (fun b o c1 _ c3 c4 e => hk' b o c1 c3 c4 e) (hg.push hb (fun b hb' o e => ?_) y1 y2 b5) b6
      obtain ⟨u1, u2, u3, u4, u5⟩ := up hb'
      exact hk' _ o u1 u3 u4 e
end
section
variable {prog : Program} {w : World} {A : Around} {R : Result → Shared → Prop} {s : Shared} {z TI TO i1 i2 S : Addr} {fp1 fp2 : List Addr} {n : Nat} {P1 P2 : Nat → Value → Prop} {St1 St2 : Nat → Heap → Prop}
/-- what list(z) needs of the zip at z -/
structure Zs (prog : Program) (w : World) (A : Around) (z TI TO i1 i2 : Addr) (fp1 fp2 : List Addr) (n : Nat) (P1 P2 : Nat → Value → Prop) (St1 St2 : Nat → Heap → Prop) (h : Heap) : Prop where
  sep : ZipSep2 z TI TO i1 i2 fp1 fp2
  d1 : Draws prog w A i1 fp1 n P1 St1
  d2 : Draws prog w A i2 fp2 n P2 St2
  le : n ≤ sizeLine
  hz : IsZip h z TI TO .none
  hT : IsTupOf2 h TI (.ref i1) (.ref i2)
  hO : IsTupOf2 h TO .none .none
  s1 : St1 0 h
  s2 : St2 0 h
  l1 : ∀ b ∈ fp1, (b : Nat) < h.objs.size
  l2 : ∀ b ∈ fp2, (b : Nat) < h.objs.size
theorem Zs.keep {h h' : Heap} (q : Zs prog w A z TI TO i1 i2 fp1 fp2 n P1 P2 St1 St2 h) (hs : h.objs.size ≤ h'.objs.size) (hk : ∀ b o, h.get? b = some o → (b : Nat) < h.objs.size → h'.get? b = some o) (hf1 : ∀ b ∈ fp1, ∀ o, h.get? b = some o → h'.get? b = some o) (hf2 : ∀ b ∈ fp2, ∀ o, h.get? b = some o → h'.get? b = some o) : Zs prog w A z TI TO i1 i2 fp1 fp2 n P1 P2 St1 St2 h' :=
  ⟨q.sep, q.d1, q.d2, q.le, hk _ _ q.hz (Heap.lt_size q.hz), hk _ _ q.hT (Heap.lt_size q.hT), hk _ _ q.hO (Heap.lt_size q.hO), q.d1.frame _ _ _ q.s1 hf1, q.d2.frame _ _ _ q.s2 hf2, fun b m => Nat.lt_of_lt_of_le (q.l1 b m) hs, fun b m => Nat.lt_of_lt_of_le (q.l2 b m) hs⟩
theorem zl_extend (hh : A.handled = none) (q : Zs prog w A.in1.in1 z TI TO i1 i2 fp1 fp2 n P1 P2 St1 St2 s.heap) (res : Value) (c₀ : Nat) (hS : s.heap.get? S = some { cls := .type "list", data := .seq #[] c₀ }) (Sf1 : S ∉ fp1) (Sf2 : S ∉ fp2)
    (hR : ∀ (h' : Heap) (tk : Nat) (as' : List Addr) (c' : Nat), (∀ b o, b ≠ S → b ≠ z → b ≠ TO → b ≠ i1 → b ≠ i2 → s.heap.get? b = some o → h'.get? b = some o) → h'.get? S = some { cls := .type "list", dict := none, data := .seq (as'.map Value.ref).toArray c', slots := #[] } → Got P1 P2 s.heap.objs.size n h' as' → R (.ok (.ret res)) { s with heap := h', toks := tk }) :
    wpAny (model prog w) A.in1 (Builtin.List.listExtendWith (.ref S) (.ref z) res)
      (fun fin s' => match fin with | .done f => R (.ok f) s' | .again c' => c'.quiet = true ∧ codeAny (model prog w) A c' R s') (fun e s' => R (.error e) s') s := by
  have hTz : s.TypeIs (.ref z) "zip" := ⟨_, q.hz, rfl⟩
  have Sz : S ≠ z := fun e => by rw [e, q.hz] at hS; simp at hS
  have STI : S ≠ TI := fun e => by rw [e, q.hT] at hS; simp at hS
  have STO : S ≠ TO := fun e => by rw [e, q.hO] at hS; simp at hS
  unfold Builtin.List.listExtendWith
  refine wpAny_bind (wpAny_typeOf hTz ?_)
  have h1 : Builtin.List.listSameRef (.ref S) (.ref z) = false := by simp [Builtin.List.listSameRef, Sz]
  have h2 : (Value.type "zip" == Value.type "list") = false := by decide
  have h3 : (Value.type "zip" == Value.type "tuple") = false := by decide
  simp only [h1, h2, h3, Bool.or_false, Bool.false_eq_true, if_false]
  refine wpAny_bind (wpAny_pyIter_zip q.hz ?_)
  refine wpAny_bind (wpAny_holding ?_)
  unfold Builtin.List.listLengthHint
  refine wpAny_bind (wpAny_specialOf hTz zip_no_len ?_)
  show wpAny _ A.in1 (specialOf (Value.ref z) (Str.ofString "__length_hint__") >>= _) _ _ _
  refine wpAny_bind (wpAny_specialOf hTz zip_no_hint ?_)
  refine wpAny_pure ?_
  show wpAny _ A.in1 (rule "list.extend.makes-room" >>= fun _ => Builtin.List.listTouch (.ref S) >>= fun _ =>
    again (.builtin "list.extend.loop" ⟨[.ref S, .ref z, res], []⟩)) _ _ _
  refine wpAny_bind (wpAny_rule ?_)
  refine wpAny_bind ?_
  show wpAny _ A.in1 (updateSeq S (·.push .none) >>= fun _ => updateSeq S (·.pop)) _ _ _
  refine wpAny_bind (wpAny_updateSeq hS rfl ?_)
  have hS₂ := Heap.get?_update_self (Obj.mapSeq (·.push Value.none)) hS rfl
  refine wpAny_updateSeq (hz := by seq_fits) hS₂ rfl ?_
  have hS₃ := Heap.get?_update_self (Obj.mapSeq (·.pop)) hS₂ rfl
  have oth : ∀ b o, b ≠ S → s.heap.get? b = some o → ((s.heap.update S (Obj.mapSeq (·.push Value.none))).update S (Obj.mapSeq (·.pop))).get? b = some o :=
    fun b o hb e => (Heap.get?_update_other _ _ (Ne.symm hb)).trans ((Heap.get?_update_other _ _ (Ne.symm hb)).trans e)
  have hsz : ((s.heap.update S (Obj.mapSeq (·.push Value.none))).update S (Obj.mapSeq (·.pop))).objs.size = s.heap.objs.size := by rw [Heap.size_update, Heap.size_update]
  refine wpAny_pure ⟨plainId_quiet F.plain_extend_loop _, zl_loop (base := s.heap.objs.size) hh q.sep q.d1 q.d2 q.le res Sz STI STO Sf1 Sf2 (Heap.lt_size q.hz) (Heap.lt_size q.hO) (q.l1 _ q.sep.mem1) (q.l2 _ q.sep.mem2) (Heap.lt_size hS) n 0 _ [] _ rfl (Nat.zero_le _) ?_ hS₃
    ⟨rfl, .nil, fun _ m => (List.not_mem_nil m).elim, fun j a e => (nomatch (show ([] : List Addr)[j]? = some a from e))⟩ (by show s.heap.objs.size ≤ _; rw [hsz]; exact Nat.le_refl _) fun h' tk as' c' hk hS' hg => ?_⟩
  · exact ⟨oth _ _ (Ne.symm STI) q.hT, q.d1.frame _ _ _ q.s1 fun b m o e => oth b o (fun x => Sf1 (x ▸ m)) e, q.d2.frame _ _ _ q.s2 fun b m o e => oth b o (fun x => Sf2 (x ▸ m)) e, .inl ⟨oth _ _ (Ne.symm Sz) q.hz, _, _, oth _ _ (Ne.symm STO) q.hO⟩⟩
  · exact hR h' tk as' c' (fun b o c1 c2 c3 c4 c5 e => hk b o c1 c2 c3 c4 c5 (oth b o c1 e)) hS' hg
theorem zl_init (hh : A.handled = none) (q : Zs prog w A.in1.in1 z TI TO i1 i2 fp1 fp2 n P1 P2 St1 St2 s.heap) (hS : s.heap.get? S = some { cls := .type "list", data := .seq #[] }) (Sf1 : S ∉ fp1) (Sf2 : S ∉ fp2)
    (hR : ∀ (h' : Heap) (tk : Nat) (as' : List Addr) (c' : Nat), (∀ b o, b ≠ S → b ≠ z → b ≠ TO → b ≠ i1 → b ≠ i2 → s.heap.get? b = some o → h'.get? b = some o) → h'.get? S = some { cls := .type "list", dict := none, data := .seq (as'.map Value.ref).toArray c', slots := #[] } → Got P1 P2 s.heap.objs.size n h' as' → R (.ok (.ret .none)) { s with heap := h', toks := tk }) :
    wpAny (model prog w) A.in1 (Builtin.«list.__init__» ⟨[.ref S, .ref z], []⟩)
      (fun fin s' => match fin with | .done f => R (.ok f) s' | .again c' => c'.quiet = true ∧ codeAny (model prog w) A c' R s') (fun e s' => R (.error e) s') s := by
  show wpAny _ A.in1 (do let old ← Builtin.List.listItems (.ref S); Builtin.List.listUpdate (.ref S) (fun _ => #[]); letGo old.toList.reverse; Builtin.List.listExtendWith (.ref S) (.ref z) .none) _ _ s
  refine wpAny_bind ?_
  unfold Builtin.List.listItems
  refine wpAny_bind (wpAny_seqItems hS rfl (wpAny_pure ?_))
  show wpAny _ A.in1 (updateSeq S (fun _ => #[]) >>= fun _ => letGo (#[] : Array Value).toList.reverse >>= fun _ => Builtin.List.listExtendWith (.ref S) (.ref z) .none) _ _ s
  refine wpAny_bind (wpAny_updateSeq hS rfl ?_)
  have hS₂ := Heap.get?_update_self (Obj.mapSeq (fun _ => (#[] : Array Value))) hS rfl
  have oth : ∀ b o, b ≠ S → s.heap.get? b = some o → (s.heap.update S (Obj.mapSeq (fun _ => (#[] : Array Value)))).get? b = some o :=
    fun b o hb e => (Heap.get?_update_other _ _ (Ne.symm hb)).trans e
  refine wpAny_bind (wpAny_letGo ?_)
  have Sz : S ≠ z := fun e => by rw [e, q.hz] at hS; simp at hS
  have STI : S ≠ TI := fun e => by rw [e, q.hT] at hS; simp at hS
  have STO : S ≠ TO := fun e => by rw [e, q.hO] at hS; simp at hS
  have hsz : (s.heap.update S (Obj.mapSeq (fun _ => (#[] : Array Value)))).objs.size = s.heap.objs.size := by rw [Heap.size_update]
  have q' : Zs prog w A.in1.in1 z TI TO i1 i2 fp1 fp2 n P1 P2 St1 St2 (s.heap.update S (Obj.mapSeq (fun _ => (#[] : Array Value)))) :=
    ⟨q.sep, q.d1, q.d2, q.le, oth _ _ (Ne.symm Sz) q.hz, oth _ _ (Ne.symm STI) q.hT, oth _ _ (Ne.symm STO) q.hO, q.d1.frame _ _ _ q.s1 fun b m o e => oth b o (fun x => Sf1 (x ▸ m)) e, q.d2.frame _ _ _ q.s2 fun b m o e => oth b o (fun x => Sf2 (x ▸ m)) e,
      fun b m => by rw [hsz]; exact q.l1 b m, fun b m => by rw [hsz]; exact q.l2 b m⟩
  refine zl_extend (s := { s with heap := s.heap.update S (Obj.mapSeq (fun _ => (#[] : Array Value))) }) hh q' .none _ hS₂ Sf1 Sf2 fun h' tk as' c' hk hS' hg => ?_
  rw [show (Shared.heap { s with heap := s.heap.update S (Obj.mapSeq (fun _ => (#[] : Array Value))) }).objs.size = s.heap.objs.size from hsz] at hg
  exact hR h' tk as' c' (fun b o c1 c2 c3 c4 c5 e => hk b o c1 c2 c3 c4 c5 (oth b o c1 e)) hS' hg
end
section
variable {prog : Program} {w : World} {A : Around} {E : Value → Shared → Prop} {s : Shared} {z TI TO i1 i2 : Addr} {fp1 fp2 : List Addr} {n : Nat} {P1 P2 : Nat → Value → Prop} {St1 St2 : Nat → Heap → Prop}
theorem zl_call {Q : Value → Shared → Prop} (hh : A.handled = none) (q : Zs prog w A.in1.in1.in1 z TI TO i1 i2 fp1 fp2 n P1 P2 St1 St2 s.heap)
    (hQ : ∀ (h' : Heap) (tk : Nat) (as' : List Addr) (c' : Nat), (∀ b o, b ≠ z → b ≠ TO → b ≠ i1 → b ≠ i2 → s.heap.get? b = some o → h'.get? b = some o) → h'.get? s.heap.objs.size = some { cls := .type "list", dict := none, data := .seq (as'.map Value.ref).toArray c', slots := #[] } → Got P1 P2 (s.heap.objs.size + 1) n h' as' → Q (.ref s.heap.objs.size) { s with heap := h', toks := tk }) :
    wpAny (model prog w) A (call (.type "list") [.ref z]) Q E s := by
  refine callType_codes (Q₁ := fun obj s₁ => obj = .ref s.heap.objs.size ∧ s₁ = { s with heap := s.heap.push { cls := .type "list", data := .seq #[] } }) F.called_list (F.typeCall_list_1 _) F.entry_list_init
    (code_list_new _ ⟨rfl, rfl⟩) fun obj s₁ h₁ => ?_
  obtain ⟨rfl, rfl⟩ := h₁
  have hS : (s.heap.push { cls := .type "list", data := .seq #[] }).get? s.heap.objs.size = some { cls := .type "list", data := .seq #[] } := Heap.get?_push_size _ rfl
  have hsz : (s.heap.push { cls := .type "list", data := .seq #[] }).objs.size = s.heap.objs.size + 1 := Heap.size_push ..
  have q' := q.keep (h' := s.heap.push { cls := .type "list", data := .seq #[] }) (by rw [hsz]; exact Nat.le_succ _) (fun b o e _ => Heap.get?_push_of_some _ e) (fun b _ o e => Heap.get?_push_of_some _ e) (fun b _ o e => Heap.get?_push_of_some _ e)
  refine ⟨⟨_, hS, rfl⟩, F.args_list_init_2 _ _, zl_init (A := A.in1) (s := { s with heap := s.heap.push { cls := .type "list", data := .seq #[] } }) hh q' hS (fun m => Nat.lt_irrefl _ (q.l1 _ m)) (fun m => Nat.lt_irrefl _ (q.l2 _ m)) fun h' tk as' c' hk hS' hg => ?_⟩
  refine ⟨rfl, hQ h' tk as' c' (fun b o c2 c3 c4 c5 e => hk b o (Nat.ne_of_lt (Heap.lt_size e)) c2 c3 c4 c5 (Heap.get?_push_of_some _ e)) hS' ?_⟩
  rw [show (Shared.heap { s with heap := s.heap.push { cls := .type "list", data := .seq #[] } }).objs.size = s.heap.objs.size + 1 from hsz] at hg
  exact hg
end
end LzO

set_option Elab.async false
set_option linter.all false
set_option maxRecDepth 100000
set_option maxHeartbeats 4000000
namespace L2
open PySem PySem.Spec PyProof.Rows
def putTs (H : Hp) : List Addr → List (List V) → Hp
  | a :: as, z :: zs => putTs (upd H a (.tup z)) as zs
  | _, _ => H
theorem putTs_off {b : Addr} : ∀ (as : List Addr) (zs : List (List V)) (H : Hp), b ∉ as → putTs H as zs b = H b
  | [], _, _, _ => rfl
  | _ :: _, [], _, _ => rfl
  | a :: as, z :: zs, H, h => by
    show putTs (upd H a (.tup z)) as zs b = H b
    rw [putTs_off as zs _ fun m => h (List.mem_cons_of_mem _ m), upd_ne fun e => h (by rw [e]; exact List.mem_cons_self)]
theorem putTs_at : ∀ (as : List Addr) (zs : List (List V)) (H : Hp), as.length = zs.length → as.Nodup → Paired (fun (t : Addr) (z : List V) => putTs H as zs t = some (.tup z)) as zs
  | [], [], _, _, _ => .nil
  | [], _ :: _, _, h, _ => by cases h
  | _ :: _, [], _, h, _ => by cases h
  | a :: as, z :: zs, H, h, nd => by
    have n := List.nodup_cons.mp nd
    refine .cons ?_ (putTs_at as zs _ (by simpa using h) n.2)
    show putTs (upd H a (.tup z)) as zs a = some (.tup z)
    rw [putTs_off as zs _ n.1, upd_same]
theorem pget {α β : Type} {F : α → β → Prop} : ∀ {xs : List α} {ys : List β}, Paired F xs ys → ∀ {x : α}, x ∈ xs → ∃ (j : Nat) (y : β), xs[j]? = some x ∧ ys[j]? = some y ∧ F x y
  | _, _, .cons r t, x, m => by
    rcases List.mem_cons.mp m with rfl | m
    · exact ⟨0, _, rfl, rfl, r⟩
    · obtain ⟨j, y, a, b, c⟩ := pget t m
      exact ⟨j + 1, y, a, b, c⟩
theorem vals_refs' : ∀ as : List Addr, Vals (as.map V.ref) (as.map Value.ref)
  | [] => .nil
  | a :: as => .cons rfl (vals_refs' as)
section
variable {X : Cx}
/-- a new list of new tuples -/
theorem tups_laid {pins : List (Addr × Obj)} {σ : L2.St} {H : Hp} {s : Shared} {h' : Heap} {tk : Nat} {zs : List (List V)} {p : Addr} {c : Nat} {as : List Addr} (I : Inv X pins σ H s) (hz : as.length ≤ sizeLine) (hl : as.length = zs.length) (hp : s.heap.objs.size ≤ p)
    (hk : ∀ b o, s.heap.get? b = some o → h'.get? b = some o) (hS : h'.get? p = some { cls := .type "list", dict := none, data := .seq (as.map Value.ref).toArray c, slots := #[] }) (nd : as.Nodup) (hn : ∀ a ∈ as, s.heap.objs.size ≤ (a : Nat)) (hpn : p ∉ as)
    (hc : ∀ (j : Nat) (a : Addr) (z : List V), as[j]? = some a → zs[j]? = some z → z.length ≤ sizeLine ∧ ∃ us : List Value, Vals z us ∧ h'.get? a = some { cls := .type "tuple", data := .seq us.toArray }) :
    ∃ H' : Hp, Same H H' ∧ H p = none ∧ (∀ t ∈ as, H t = none) ∧ H' p = some (.lst (as.map V.ref)) ∧ Paired (fun (t : Addr) (z : List V) => H' t = some (.tup z)) as zs ∧ Inv X pins σ H' { s with heap := h', toks := tk } := by
  have new : ∀ t ∈ as, H t = none := fun t ht => I.hok.fresh (hn t ht)
  have newS : H p = none := I.hok.fresh hp
  have atP := putTs_at as zs (upd H p (.lst (as.map V.ref))) hl nd
  have off : ∀ b, b ∉ as → b ≠ p → putTs (upd H p (.lst (as.map V.ref))) as zs b = H b := fun b h1 h2 => by rw [putTs_off as zs _ h1, upd_ne h2]
  have low : ∀ b o, s.heap.get? b = some o → b ∉ as ∧ b ≠ p := fun b o e => ⟨fun z => absurd (Heap.lt_size e) (Nat.not_lt.mpr (hn b z)), fun z => absurd (Heap.lt_size e) (Nat.not_lt.mpr (z ▸ hp))⟩
  have kp : ∀ b u, H b = some u → (putTs (upd H p (.lst (as.map V.ref))) as zs) b = some u := fun b u e => by
    rw [off b (fun z => by rw [new b z] at e; cases e) (fun z => by rw [z, newS] at e; cases e)]
    exact e
  have eS : putTs (upd H p (.lst (as.map V.ref))) as zs p = some (.lst (as.map V.ref)) := by rw [putTs_off as zs _ hpn, upd_same]
  refine ⟨putTs (upd H p (.lst (as.map V.ref))) as zs, kp, newS, new, eS, atP, ?_⟩
  refine I.call' (ch := []) rfl ⟨fun b o q _ _ _ => hk b o q, fun b o q _ _ _ => ⟨o.slots, hk b o q⟩, fun b o q n _ => ?_, fun b o q _ => ⟨o, hk b o q⟩, fun b xs q => kp b _ q, fun b o u q => kp b _ q, fun b ps q => ⟨#[], by rw [kp b _ q]; simp⟩⟩ (fun b u q => ?_) I.bare fun b z => by simp at z
  · obtain ⟨z1, z2⟩ := low b o q
    rw [off b z1 z2]
    exact n
  · by_cases hb : b ∈ as
    · obtain ⟨j, z, e1, e2, e3⟩ := pget atP hb
      rw [e3] at q
      cases q
      obtain ⟨lz, us, r, f3⟩ := hc j b z e1 e2
      exact ⟨lz, us, r, ⟨_, f3, rfl, _, rfl⟩⟩
    · by_cases hb2 : b = p
      · rw [hb2] at q ⊢
        rw [eS] at q
        cases q
        exact ⟨by rw [List.length_map]; exact hz, as.map Value.ref, c, vals_refs' as, hS⟩
      · rw [off b hb hb2] at q
        exact (I.hok b u q).stay (fun d v _ y => hk d v y) (fun d y => kp d _ y) fun d xs y => kp d _ y
/-- a list or a tuple, to be walked -/
theorem src_of {pins : List (Addr × Obj)} {σ : L2.St} {H : Hp} {s : Shared} {a : Addr} {xs : List V} (I : Inv X pins σ H s) (h : SqL X.K H a xs ∨ SqT X.K H a xs) :
    ∃ (o : Obj) (Hh : Heap → Prop) (its : List Value), Vals xs its ∧ xs.length ≤ sizeLine ∧ Begins (.ref a) o Hh ∧ Hh s.heap ∧ (a : Nat) < s.heap.objs.size ∧
      ∀ (A : Around), A.handled = none → ∀ it : Addr, a ≠ it → ∃ St : Nat → Heap → Prop, Draws X.prog X.w A it [it, a] its.length (fun i v => its[i]? = some v) St ∧ ∀ h', h'.get? it = some o → Hh h' → St 0 h' := by
  rcases h with h | h
  · obtain ⟨its, rv, p, hz⟩ := I.list h
    refine ⟨_, _, its, rv, hz, begins_list a its.toArray, p.isList, p.lt, fun A hh it hne => ⟨fun i h => h.IsListIter it a i ∧ h.IsList a its.toArray, ?_, fun h' e hl => ⟨⟨_, e, rfl, rfl⟩, hl⟩⟩⟩
    have D := Draws.list (prog := X.prog) (w := X.w) hh it a hne its.toArray
    simpa using D
  · obtain ⟨its, rv, p, hz⟩ := I.tuple h
    obtain ⟨o1, ho1, _⟩ := id p
    refine ⟨_, _, its, rv, hz, begins_tuple a its.toArray, (show s.heap.IsTuple a its.toArray from p), Heap.lt_size ho1, fun A hh it hne => ⟨fun i h => h.IsTupleIter it a i ∧ h.IsTuple a its.toArray, ?_, fun h' e hl => ⟨⟨_, e, rfl, rfl⟩, hl⟩⟩⟩
    have D := Draws.tuple (prog := X.prog) (w := X.w) hh it a hne its.toArray
    simpa using D

/-- list(zip(a, b)): lists or tuples of one length -/
def tListZip (K : PySem.W.Frag) (ta : TA) : TE := fun σ H Q => ta σ H fun vs H1 => ∃ (a b : Addr) (xs ys : List V), vs = [.ref a, .ref b] ∧ (SqL K H1 a xs ∨ SqT K H1 a xs) ∧ (SqL K H1 b ys ∨ SqT K H1 b ys) ∧ xs.length = ys.length ∧
  ∀ (H' : Hp) (p : Addr) (ts : List Addr), Same H1 H' → H1 p = none → (∀ t ∈ ts, H1 t = none) → H' p = some (.lst (ts.map V.ref)) → Paired (fun (t : Addr) (z : List V) => H' t = some (.tup z)) ts ((xs.zip ys).map fun q => [q.1, q.2]) → Q (.ref p) H'
theorem pe_listZip {a b : Expr} {ta : TA} {p p2 pos pos2 : Pos} (hc : X.calm = true) (hg : Gl X "list") (hm : X.mg "list" = none) (hg2 : Gl X "zip") (hm2 : X.mg "zip" = none) (ha : PA X [a, b] ta)
    (hs : starEach [a, b] X.env = (false, eval a X.env) :: starEach [b] X.env := by rfl) (hpl : (backTo pos2 (starEach [b] X.env)).any (·.1) = false := by rfl)
    (na : starEach [.Call (.Name "zip" p2) [a, b] [] pos2] X.env = (false, eval (.Call (.Name "zip" p2) [a, b] [] pos2) X.env) :: starEach [] X.env := by rfl) :
    PE X (.Call (.Name "list" p) [.Call (.Name "zip" p2) [a, b] [] pos2] [] pos) (tListZip X.K ta) := by
  refine ⟨fun pins s σ H Q I h => ?_⟩
  refine Call_ (ld_blt I hg hm boot_list (PyProof.Rows.callWith_type1 (args_cons ?_ na) na))
  refine Call_ (ld_blt I hg2 hm2 PyProof.Rows.boot_zip (PyProof.Rows.callWith_type1 (thn (ha.run pos2 pins s σ H _ I h) fun us s1 ⟨vs, H1, I1, r1, q1⟩ => ?_) hs hpl))
  obtain ⟨a1, b1, xs, ys, ex, hx, hy, hl, q⟩ := q1
  subst ex
  cases r1 with
  | cons r rr =>
    cases rr with
    | cons r' rr =>
      cases rr
      cases r
      cases r'
      obtain ⟨o1, H1h, its1, v1, z1, B1, hb1, lt1, dr1⟩ := src_of I1 hx
      obtain ⟨o2, H2h, its2, v2, z2, B2, hb2, lt2, dr2⟩ := src_of I1 hy
      refine zip_begins2 B1 B2 hb1 hb2 fun h' hz hTI hTO g1 g2 hsz hk => args_nil ?_
      have I2 : Inv X pins σ H1 { s1 with heap := h' } := I1.kept (t' := s1.toks) hk
      have hd := I1.ok.hd hc
      obtain ⟨St1, D1, st1⟩ := dr1 X.A.in1.in1.in1 hd s1.heap.objs.size (Nat.ne_of_lt lt1)
      obtain ⟨St2, D2, st2⟩ := dr2 X.A.in1.in1.in1 hd (s1.heap.objs.size + 1) (Nat.ne_of_lt (Nat.lt_succ_of_lt lt2))
      have e12 : its1.length = its2.length := by rw [← v1.length, ← v2.length, hl]
      rw [← e12] at D2
      have sep : ZipSep2 (s1.heap.objs.size + 4) (s1.heap.objs.size + 2) (s1.heap.objs.size + 3) s1.heap.objs.size (s1.heap.objs.size + 1) [s1.heap.objs.size, a1] [s1.heap.objs.size + 1, b1] :=
        zip_sep2 (fp1 := [a1]) (fp2 := [b1]) (fun b m => by rw [List.mem_singleton.mp m]; exact lt1) (fun b m => by rw [List.mem_singleton.mp m]; exact lt2)
      have zq : LzO.Zs X.prog X.w X.A.in1.in1.in1 (s1.heap.objs.size + 4) (s1.heap.objs.size + 2) (s1.heap.objs.size + 3) s1.heap.objs.size (s1.heap.objs.size + 1) [s1.heap.objs.size, a1] [s1.heap.objs.size + 1, b1] its1.length _ _ St1 St2 h' :=
        { sep := sep, d1 := D1, d2 := D2, le := by rw [← v1.length]; exact z1, hz := hz, hT := hTI, hO := hTO, s1 := st1 _ g1 (B1.keeps _ _ hb1 hk), s2 := st2 _ g2 (B2.keeps _ _ hb2 hk),
          l1 := fun b m => by
            rw [hsz]
            rcases List.mem_cons.mp m with rfl | m
            · exact Nat.lt_add_of_pos_right (by decide)
            · rw [List.mem_singleton.mp m]; exact Nat.lt_of_lt_of_le lt1 (Nat.le_add_right _ _)
          l2 := fun b m => by
            rw [hsz]
            rcases List.mem_cons.mp m with rfl | m
            · exact Nat.add_lt_add_left (by decide) _
            · rw [List.mem_singleton.mp m]; exact Nat.lt_of_lt_of_le lt2 (Nat.le_add_right _ _) }
      refine LzO.zl_call (s := { s1 with heap := h' }) hd zq fun h2 tk as c' hk2 hS hg => ?_
      have hp5 : (Shared.heap { s1 with heap := h' }).objs.size = s1.heap.objs.size + 5 := hsz
      have low : ∀ c o, s1.heap.get? c = some o → h2.get? c = some o := fun c o e => by
        have lc := Heap.lt_size e
        exact hk2 c o (Nat.ne_of_lt (Nat.lt_of_lt_of_le lc (Nat.le_add_right _ _))) (Nat.ne_of_lt (Nat.lt_of_lt_of_le lc (Nat.le_add_right _ _))) (Nat.ne_of_lt lc) (Nat.ne_of_lt (Nat.lt_succ_of_lt lc)) (hk c o e)
      have las : as.length = xs.length := by rw [hg.len, v1.length]
      have lz : ((xs.zip ys).map fun q => [q.1, q.2]).length = xs.length := by rw [List.length_map, List.length_zip, ← hl, Nat.min_self]
      obtain ⟨H', e1, e2, e3, e4, e5, I3⟩ := tups_laid (tk := tk) (zs := (xs.zip ys).map fun q => [q.1, q.2]) I1 (by rw [las]; exact z1) (by rw [las, lz]) (show s1.heap.objs.size ≤ (Shared.heap { s1 with heap := h' }).objs.size by rw [hp5]; exact Nat.le_add_right _ _) low hS
        (hg.asc.imp fun {a b} l => Nat.ne_of_lt l) (fun a m => Nat.le_trans (by rw [hp5]; exact Nat.le_trans (Nat.le_add_right _ _) (Nat.le_succ _)) (hg.rng a m)) (fun m => Nat.not_succ_le_self _ (hg.rng _ m)) fun j a z ja jz => by
          obtain ⟨x, y, px, py, t⟩ := hg.at_ j a ja
          rw [List.getElem?_map] at jz
          cases ez : (xs.zip ys)[j]? with
          | none => rw [ez] at jz; cases jz
          | some q =>
            rw [ez] at jz
            cases jz
            obtain ⟨q1, q2⟩ := List.getElem?_zip_eq_some.mp ez
            obtain ⟨u, hu, ru⟩ := v1.get q1
            obtain ⟨v, hv, rv⟩ := v2.get q2
            rw [px] at hu
            rw [py] at hv
            cases hu
            cases hv
            exact ⟨by show 2 ≤ sizeLine; decide, [x, y], .cons ru (.cons rv .nil), t⟩
      exact ⟨.ref _, H', I3, rfl, q H' _ as e1 e2 e3 e4 e5⟩
end
end L2

/-! range(a, b) of integers of any size, walked by a for -/
namespace L2
open PySem PySem.Spec PyProof.Rows
theorem turn_long {P : Program} {w : World} {K : PySem.W.Frag} {tg : Expr} (it : Addr) (lo : Int) (n : Nat) : Turn P w K tg (Itr lo n) [it] it (fun i h => IsLongIter h it (lo + (i : Nat) * 1) ((n : Int) - (i : Nat)) 1) where
  mem := by simp
  obj := fun i h st b hb => by
    have e : b = it := by simpa using hb
    subst e
    exact ⟨_, st, fun v z => by
      have z' : Data.fields _ = Data.cell v := z
      cases z'⟩
  keep := fun i h h' st k => k it (by simp) _ st
  item := by
    intro X hP hw hK hc i pins s σ H E I hf st hg
    subst hP hw hK
    obtain ⟨f0, f1, f2, f3, f4, f5⟩ := hf it (by simp)
    have W := Walks.longrange (prog := X.prog) (w := X.w) (I.ok.hd hc) it lo 1 n
    refine W.item i s _ _ hg st fun v h' tk hv st' kk => ?_
    obtain ⟨t, rfl⟩ := hv
    have I1 : Inv X pins σ H { s with heap := h', toks := tk } := I.turned (fun b o hb e => kk b o (by simpa using hb) e) f0 f1 f3 f4 f5
    refine ⟨_, rfl, go_of (s := { s with heap := h', toks := tk }) (n := "longrange_iterator") st' rfl rfl (by decide) ⟨.int (lo + i), H, I1, ⟨t, ?_⟩, ⟨rfl, rfl⟩, st', fun b hb => (hf b hb).1⟩⟩
    rw [Int.mul_one]
  done := by
    intro X hP hw hK hc i pins s σ H E I hf st hg
    subst hP hw hK
    obtain ⟨f0, f1, f2, f3, f4, f5⟩ := hf it (by simp)
    exact wpAny_pyNext_long_end (I.ok.hd hc) st (by have : n ≤ i := hg; omega) fun h' eb => ⟨rfl, I.turned (t' := s.toks) (fun b o hb e => eb b o hb e) f0 f1 f3 f4 f5⟩
  self := fun _ _ _ _ _ st h => wpAny_pyIter_longiter st h
section
variable {X : Cx} {tg : Expr}
theorem range_itW {pins : List (Addr × Obj)} {σ : St} {H : Hp} {s : Shared} {R : It → Hp → Prop} {E : Value → Shared → Prop} {lo hi : Int} {t u v : Tok} {tk : Nat} (I : Inv X pins σ H s)
    (q : R (Itr lo (hi - lo).toNat) H) : wpAny (model X.prog X.w) X.A (pyIter (.ref s.heap.objs.size)) (PIE X pins σ tg R) E { s with heap := s.heap.push { cls := .type "range", data := .fields #[.int lo t, .int hi u, .int 1 v] }, toks := tk } := by
  have I1 : Inv X pins σ H { s with heap := s.heap.push { cls := .type "range", data := .fields #[.int lo t, .int hi u, .int 1 v] }, toks := tk } := I.kept fun b o e => Heap.get?_push_of_some _ e
  have e1 : lo + ((0 : Nat) : Int) * 1 = lo := by simp
  have e2 : (((hi - lo).toNat : Nat) : Int) - ((0 : Nat) : Int) = Builtin.Range.rangeSize lo hi 1 := by rw [rangeSize_one]; split <;> omega
  have fp : ∀ (b : Addr), b ∈ [(s.heap.push { cls := .type "range", data := .fields #[.int lo t, .int hi u, .int 1 v] }).objs.size] → FpOk X pins H b := fun b hb => by
    have e : b = (s.heap.push { cls := .type "range", data := .fields #[.int lo t, .int hi u, .int 1 v] }).objs.size := by simpa using hb
    subst e
    exact I1.fpOk (Nat.le_refl _) (I1.hok.fresh (Nat.le_refl _))
  cases sm : Builtin.Range.small lo hi 1 with
  | true =>
    refine wpAny_pyIter_range (IsRange.new ..) sm ?_
    refine ⟨(s.heap.push { cls := .type "range", data := .fields #[.int lo t, .int hi u, .int 1 v] }).objs.size, [(s.heap.push { cls := .type "range", data := .fields #[.int lo t, .int hi u, .int 1 v] }).objs.size], _, _, H, rfl,
      I1.kept (t' := tk) fun b o e => Heap.get?_push_of_some _ e, turn_range _ lo (hi - lo).toNat, ?_, fp, q⟩
    show IsRangeIter _ _ (lo + ((0 : Nat) : Int) * 1) ((((hi - lo).toNat : Nat) : Int) - ((0 : Nat) : Int)) 1
    rw [e1, e2]
    exact Heap.get?_push_size _ rfl
  | false =>
    refine wpAny_pyIter_longrange (IsRange.new ..) sm ?_
    refine ⟨(s.heap.push { cls := .type "range", data := .fields #[.int lo t, .int hi u, .int 1 v] }).objs.size, [(s.heap.push { cls := .type "range", data := .fields #[.int lo t, .int hi u, .int 1 v] }).objs.size], _, _, H, rfl,
      I1.kept (t' := tk) fun b o e => Heap.get?_push_of_some _ e, turn_long _ lo (hi - lo).toNat, ?_, fp, q⟩
    show IsLongIter _ _ (lo + ((0 : Nat) : Int) * 1) ((((hi - lo).toNat : Nat) : Int) - ((0 : Nat) : Int)) 1
    rw [e1, e2]
    exact Heap.get?_push_size _ rfl
def iRng2W (ta : TA) : TI := fun σ H R => ta σ H fun vs H1 => ∃ i j : Int, vs = [.int i, .int j] ∧ R (Itr i (j - i).toNat) H1
theorem pi_range2W {a b : Expr} {ta : TA} {p pos : Pos} (hg : Gl X "range") (hm : X.mg "range" = none) (ha : PA X [a, b] ta) (hs : starEach [a, b] X.env = [(false, eval a X.env), (false, eval b X.env)] := by rfl) (hs2 : starEach [b] X.env = [(false, eval b X.env)] := by rfl) :
    PI X tg (.Call (.Name "range" p) [a, b] [] pos) (iRng2W ta) := by
  refine ⟨fun pins s σ H R I h => ?_⟩
  refine Call_ (ld_blt I hg hm boot_range (PyProof.Rows.callWith_type1 (thn (ha.run pos pins s σ H _ I h) fun us s1 ⟨vs, H1, I1, r1, q1⟩ => ?_) (by rw [hs, hs2]) (by rw [hs2]; rfl)))
  obtain ⟨i, j, e, q⟩ := q1
  subst e
  cases r1 with
  | cons r rr =>
    cases rr with
    | cons r' rr =>
      cases rr
      obtain ⟨t, rfl⟩ := r
      obtain ⟨t', rfl⟩ := r'
      exact call_range_2 (range_itW I1 q)
end
end L2

set_option Elab.async false
set_option linter.all false
set_option pp.deepTerms false
set_option pp.maxSteps 3000
set_option maxRecDepth 100000
set_option maxHeartbeats 4000000
set_option exponentiation.threshold 3000
namespace Gr
open PySem PySem.Spec PyProof.Rows L2
open Pm (Rn)
theorem smallL {n : Nat} (h : n ≤ 100000) : n < sizeLine := Nat.lt_of_le_of_lt h (by decide)
def i3 (r : Rn) : List V := [.int r.1, .int r.2.1, .int r.2.2]
def RnAt (H : Hp) (x : V) (r : Rn) : Prop := ∃ b, x = .ref b ∧ H b = some (.tup (i3 r))
def RnsT (H : Hp) (a : Addr) (rs : List Rn) : Prop := ∃ xs, H a = some (.tup xs) ∧ Paired (RnAt H) xs rs
def RnsL (H : Hp) (a : Addr) (rs : List Rn) : Prop := ∃ xs, H a = some (.lst xs) ∧ Paired (RnAt H) xs rs
theorem RnAt.mono {H H' : Hp} {x : V} {r : Rn} (s : Same H H') (h : RnAt H x r) : RnAt H' x r := by
  obtain ⟨b, e, h⟩ := h; exact ⟨b, e, s _ _ h⟩
theorem rns_mono {H H' : Hp} (s : Same H H') {xs : List V} {rs : List Rn} (h : Paired (RnAt H) xs rs) : Paired (RnAt H') xs rs := L2.Paired.mapP h fun _ _ r => r.mono s
theorem RnsT.mono {H H' : Hp} {a : Addr} {rs : List Rn} (s : Same H H') (h : RnsT H a rs) : RnsT H' a rs := by
  obtain ⟨xs, h1, h2⟩ := h; exact ⟨xs, s _ _ h1, rns_mono s h2⟩
/-- two runs as a pair -/
def PrAt (H : Hp) (x : V) (q : Rn × Rn) : Prop := ∃ t u v, x = .ref t ∧ H t = some (.tup [u, v]) ∧ RnAt H u q.1 ∧ RnAt H v q.2
theorem PrAt.mono {H H' : Hp} {x : V} {q : Rn × Rn} (s : Same H H') (h : PrAt H x q) : PrAt H' x q := by
  obtain ⟨t, u, v, e, h, a, b⟩ := h; exact ⟨t, u, v, e, s _ _ h, a.mono s, b.mono s⟩
/-- each run with the one ahead of it -/
def prs (c : Int) (rs : List Rn) : List (Rn × Rn) := (Pm.mv (-c) (rs.getLastD (0, 0, 0)) :: rs.dropLast).zip rs
structure DefM (K : PySem.W.Frag) (x qual : Str) (st : Stmt) (ps : List Str) (f : Addr) (fd : FuncData) : Prop where
  F : Fun K x qual st f fd
  b : Binds K fd ps []
theorem decV (i j : Int) : decide (V.int i = V.int j) = decide (i = j) := decide_eq_decide.mpr ⟨fun e => V.int.inj e, fun e => congrArg V.int e⟩
def spLastArr : Sp := fun vs H Q _ => ∃ (x : V) (r : Rn), vs = [x] ∧ RnAt H x r ∧ Q (.int (Pm.la r)) H
def spGoes : Sp := fun vs H Q _ => ∃ (x y : V) (b r : Rn), vs = [x, y] ∧ RnAt H x b ∧ RnAt H y r ∧ Q (.bl (decide (Pm.GoesOn b r))) H
def spJoins : Sp := fun vs H Q _ => ∃ (x y : V) (b r : Rn), vs = [x, y] ∧ RnAt H x b ∧ RnAt H y r ∧ Q (.bl (decide (Pm.Joins b r))) H
def spMoved : Sp := fun vs H Q _ => ∃ (a : Addr) (t : Int) (ns : List Int), vs = [.ref a, .int t] ∧ H a = some (.tup (ns.map V.int)) ∧ ns.length ≤ 100 ∧ ∀ b H', Same H H' → H b = none → H' b = some (.tup ((ns.map fun n => n + t).map V.int)) → Q (.ref b) H'
def spIsRun : Sp := fun vs H Q _ => ∃ (x : V) (r : Rn), vs = [x] ∧ RnAt H x r ∧ r.1 ≤ r.2.1 ∧ ∀ H', Same H H' → Q (.bl true) H'
def spPairs : Sp := fun vs H Q _ => ∃ (c : Int) (a : Addr) (rs : List Rn), vs = [.int c, .ref a] ∧ RnsT H a rs ∧ rs ≠ [] ∧ rs.length ≤ 50000 ∧ ∀ p ps H', Same H H' → H' p = some (.lst ps) → Paired (PrAt H') ps (prs c rs) → Q (.ref p) H'
def spAre : Sp := fun vs H Q _ => ∃ (c : Int) (a : Addr) (rs : List Rn), vs = [.int c, .ref a] ∧ RnsT H a rs ∧ Pm.Ok c rs ∧ rs.length ≤ 50000 ∧ ∀ H', Same H H' → Q (.bl true) H'
section
variable {P : Program} {w : World} {K : PySem.W.Frag} {mg : Str → Option Value} {base : Heap} {tC : Tok}
theorem ok_last_arr {f : Addr} {fd : FuncData} (B : Blt mg tC) (Dlast_arrival : Def K mg "last_arrival" s_last_arrival ["run"] f fd) : FnOk P w K mg base CX0 1 f fd ["run"] spLastArr := by
  refine Dlast_arrival.F.ok sclast_arrival (fun vs H Q E h => ?_) (fun cdv A outer s H vs Q E hr h => ⟨_, (pss_cons (ps_asg (pv 0) (pg_tup rfl (pgs_cons (pg_name (i := 1) sclast_arrival.nd rfl (Or.inl rfl)) (pgs_cons (pg_name (i := 2) sclast_arrival.nd rfl (Or.inl rfl)) (pgs_cons (pg_name (i := 3) sclast_arrival.nd rfl (Or.inl rfl)) pgs_nil)))))
  (pss_one (ps_ret (pe_op op_sub (pe_op op_add (pv 3) (pv 2)) (pv 1))))), ?_⟩)
  · obtain ⟨x, r, rfl, _⟩ := h; rfl
  · obtain ⟨x, r, rfl, ⟨b, rfl, hb⟩, q⟩ := h
    refine ⟨_, rfl, b, _, rfl, SqT.of hb, rfl, _, _, rfl, _, _, rfl, _, _, rfl, rfl, ?_⟩
    exact ⟨_, rfl, _, rfl, _, _, rfl, rfl, _, rfl, _, _, rfl, rfl, q⟩
theorem ok_goes {f f1 : Addr} {fd fd1 : FuncData} (B : Blt mg tC) (Dgoes_on : Def K mg "goes_on" s_goes_on ["before", "run"] f fd) (Dlast_arrival : Def K mg "last_arrival" s_last_arrival ["run"] f1 fd1) : FnOk P w K mg base CX0 2 f fd ["before", "run"] spGoes := by
  have Glast_arrival := ok_last_arr (P := P) (w := w) (base := base) B Dlast_arrival
  refine Dgoes_on.F.ok scgoes_on (fun vs H Q E h => ?_) (fun cdv A outer s H vs Q E hr h => ⟨_, (pss_one (ps_ret (pe_and (pe_cmpR op_lt (pe_ix ix_tup (pv 0) pe_int (fun _ _ => rfl)) (pe_ix ix_tup (pv 1) pe_int (fun _ _ => rfl)) (nomark _)) (pe_one (pe_cmpR op_lt (pe_call Glast_arrival (hr.mono (by decide)) (by rfl) Dlast_arrival.g Dlast_arrival.F.kp Dlast_arrival.b .nil pass0 (pa_cons (pv 0) pa_nil)) (pe_ix ix_tup (pv 1) pe_int (fun _ _ => rfl)) (nomark _)))))), ?_⟩)
  · obtain ⟨x, y, b, r, rfl, _⟩ := h; rfl
  · obtain ⟨x, y, b, r, rfl, ⟨a1, rfl, h1⟩, ⟨a2, rfl, h2⟩, q⟩ := h
    have e : decide (Pm.GoesOn b r) = (decide (b.2.1 < r.1) && decide (Pm.la b < r.2.2)) := by unfold Pm.GoesOn; exact Bool.decide_and ..
    rw [e] at q
    refine ⟨_, rfl, a1, _, _, _, rfl, rfl, SqT.of h1, atI_nat (j := 1) rfl, _, rfl, a2, _, _, _, rfl, rfl, SqT.of h2, atI_nat (j := 0) rfl, _, _, rfl, rfl, ?_⟩
    refine ⟨_, rfl, ?_⟩
    by_cases z : b.2.1 < r.1
    · refine iteY z ?_
      rw [decide_eq_true z, Bool.true_and] at q
      exact ⟨_, rfl, _, b, rfl, ⟨a1, rfl, h1⟩, _, rfl, a2, _, _, _, rfl, rfl, SqT.of h2, atI_nat (j := 2) rfl, _, _, rfl, rfl, q⟩
    · refine iteN z ?_
      rw [decide_eq_false z, Bool.false_and] at q
      exact q
theorem ok_joins {f f1 : Addr} {fd fd1 : FuncData} (B : Blt mg tC) (Djoins : Def K mg "joins" s_joins ["before", "run"] f fd) (Dlast_arrival : Def K mg "last_arrival" s_last_arrival ["run"] f1 fd1) : FnOk P w K mg base CX0 2 f fd ["before", "run"] spJoins := by
  have Glast_arrival := ok_last_arr (P := P) (w := w) (base := base) B Dlast_arrival
  refine Djoins.F.ok scjoins (fun vs H Q E h => ?_) (fun cdv A outer s H vs Q E hr h => ⟨_, (pss_one (ps_ret (pe_and (pe_cmpR op_eq (pe_op op_add (pe_ix ix_tup (pv 0) pe_int (fun _ _ => rfl)) pe_int) (pe_ix ix_tup (pv 1) pe_int (fun _ _ => rfl)) (nomark _)) (pe_one (pe_cmpR op_eq (pe_op op_add (pe_call Glast_arrival (hr.mono (by decide)) (by rfl) Dlast_arrival.g Dlast_arrival.F.kp Dlast_arrival.b .nil pass0 (pa_cons (pv 0) pa_nil)) pe_int) (pe_ix ix_tup (pv 1) pe_int (fun _ _ => rfl)) (nomark _)))))), ?_⟩)
  · obtain ⟨x, y, b, r, rfl, _⟩ := h; rfl
  · obtain ⟨x, y, b, r, rfl, ⟨a1, rfl, h1⟩, ⟨a2, rfl, h2⟩, q⟩ := h
    have e : decide (Pm.Joins b r) = (decide (b.2.1 + 1 = r.1) && decide (Pm.la b + 1 = r.2.2)) := by unfold Pm.Joins; exact Bool.decide_and ..
    rw [e] at q
    refine ⟨_, rfl, a1, _, _, _, rfl, rfl, SqT.of h1, atI_nat (j := 1) rfl, _, _, rfl, rfl, _, rfl, a2, _, _, _, rfl, rfl, SqT.of h2, atI_nat (j := 0) rfl, rfl, _, rfl, ?_⟩
    by_cases z : b.2.1 + 1 = r.1
    · refine iteY (congrArg V.int z) ?_
      rw [decide_eq_true z, Bool.true_and] at q
      refine ⟨_, rfl, _, b, rfl, ⟨a1, rfl, h1⟩, _, _, rfl, rfl, _, rfl, a2, _, _, _, rfl, rfl, SqT.of h2, atI_nat (j := 2) rfl, rfl, ?_⟩
      rw [decV]
      exact q
    · refine iteN (fun e => z (V.int.inj e)) ?_
      rw [decide_eq_false z, Bool.false_and] at q
      exact q
theorem ok_moved {f : Addr} {fd : FuncData} (B : Blt mg tC) (Dmoved : Def K mg "moved" s_moved ["run", "ticks"] f fd) : FnOk P w K mg base CX0 1 f fd ["run", "ticks"] spMoved := by
  refine Dmoved.F.ok scmoved (fun vs H Q E h => ?_) (fun cdv A outer s H vs Q E hr h => ⟨_, (pss_one (ps_ret (pe_callTy call_tuple_of (by rfl) B.n_tuple (by decide +kernel) (pa_cons (pe_lc (own := [("moment", 2)]) (g := (gName 2)) (tt := tYes) rfl scmoved.nd (pi_tup (pv 0)) (blkOk_by (N := ["run", "ticks", "moment"]) (sc := defScope s_moved) (by decide +kernel)) (fun _ _ _ _ _ => (pg_name (i := 2) scmoved.nd rfl (Or.inl rfl))) (fun _ _ _ _ _ => pts_nil) (fun _ _ _ _ _ => (pe_op op_add (pv 2) (pv 1)))) pa_nil)))), ?_⟩)
  · obtain ⟨a, t, ns, rfl, _⟩ := h; rfl
  · obtain ⟨a, t, ns, rfl, ha, hl, q⟩ := h
    refine ⟨_, rfl, a, rfl, ⟨_, SqT.of ha⟩, fun D hD => ?_⟩
    refine lc_tup (xs := ns.map V.int) (fun i H' => Same H H' ∧ H' D = some (.lst (((ns.take i).map fun n => n + t).map V.int))) ⟨Same.new hD, upd_same⟩ (fun i H' _ ⟨s1, _⟩ => SqT.of (s1 _ _ ha)) ?_ ?_
    · rintro i x H' hx ⟨s1, e1⟩
      rw [List.getElem?_map] at hx
      cases hn : ns[i]? with
      | none => rw [hn] at hx; cases hx
      | some n =>
        rw [hn] at hx
        cases hx
        refine ⟨rfl, _, rfl, _, rfl, _, _, rfl, rfl, _, e1, ?_, fun b' o h => ?_, ?_⟩
        · rw [List.length_map, List.length_map, List.length_take]; exact smallL (by omega)
        · rw [upd_ne (ne_of_none h hD)]; exact s1 _ _ h
        · rw [upd_same, List.take_add_one, hn, List.map_append, List.map_append]; rfl
    · rintro H' ⟨s1, e1⟩
      rw [List.length_map, List.take_of_length_le (Nat.le_refl _)] at e1
      exact ⟨D, _, rfl, .inl ⟨SqL.of e1, fun l hl => q l _ (s1.trans (Same.new hl)) (by
        cases hh : H l with
        | none => rfl
        | some o => rw [s1 _ _ hh] at hl; cases hl) upd_same⟩⟩
theorem ok_is_run {f f1 : Addr} {fd fd1 : FuncData} (B : Blt mg tC) (Dis_run : Def K mg "is_run" s_is_run ["value"] f fd) (Dis_whole : Def K mg "is_whole" s_is_whole ["value"] f1 fd1) : FnOk P w K mg base CX0 2 f fd ["value"] spIsRun := by
  have Gis_whole := ok_is_whole (P := P) (w := w) (base := base) B Dis_whole
  refine Dis_run.F.ok scis_run (fun vs H Q E h => ?_) (fun cdv A outer s H vs Q E hr h => ⟨_, (pss_cons (ps_if (PW.pt (pw_or (pt_not (pt_val (pe_callB call_isi (by rfl) B.n_isinstance (by decide +kernel) (pa_cons (pv 0) (pa_cons (pe_bltn (v := .ty "tuple") (u := .type "tuple") (by rfl) B.n_tuple (by decide +kernel) rfl) pa_nil))))) (pw_or1 (pt_cmpR op_ne (pe_callB call_len_seq (by rfl) B.len PySem.boot_len (pa_cons (pv 0) pa_nil)) pe_int (nomark _)))))
   (pss_one (ps_ret pe_bl))
   pss_nil)
  (pss_one (ps_ret (pe_and (pe_callB (cr_all rfl) (by rfl) B.n_all (by decide +kernel) (pa_cons (pe_lc (own := [("part", 1)]) (g := (gName 1)) (tt := tYes) rfl scis_run.nd (pi_tup (pv 0)) (blkOk_by (N := ["value", "part"]) (sc := defScope s_is_run) (by decide +kernel)) (fun _ _ _ _ _ => (pg_name (i := 1) scis_run.nd rfl (Or.inl rfl))) (fun _ _ _ _ _ => pts_nil) (fun _ _ _ _ _ => (pe_call Gis_whole (hr.mono (by decide)) (by rfl) Dis_whole.g Dis_whole.F.kp Dis_whole.b .nil pass0 (pa_cons (pv 1) pa_nil)))) pa_nil)) (pe_one (pe_cmpR op_le (pe_ix ix_tup (pv 0) pe_int (fun _ _ => rfl)) (pe_ix ix_tup (pv 0) pe_int (fun _ _ => rfl)) (nomark _))))))), ?_⟩)
  · obtain ⟨x, r, rfl, _⟩ := h; rfl
  · obtain ⟨x, r, rfl, ⟨a, rfl, ha⟩, hle, q⟩ := h
    refine ⟨_, rfl, .ref a, .ty "tuple", .type "tuple", .type "tuple", true, rfl, .ty _, .base (.tup ha), kit_ty (by decide +kernel), _, rfl, ?_⟩
    refine ⟨_, rfl, a, _, rfl, .inr (SqT.of ha), rfl, _, rfl, ?_⟩
    refine iteNS rfl ?_
    refine ⟨_, rfl, a, rfl, ⟨_, SqT.of ha⟩, fun D hD => ?_⟩
    refine lc_tup (xs := i3 r) (fun i H' => Same H H' ∧ H' D = some (.lst ((List.replicate i true).map V.bl))) ⟨Same.new hD, upd_same⟩ (fun i H' _ ⟨s1, _⟩ => SqT.of (s1 _ _ ha)) ?_ ?_
    · rintro i x H' hx ⟨s1, e1⟩
      have hi := (List.getElem?_eq_some_iff.mp hx).1
      have h3 : (i3 r).length = 3 := rfl
      obtain ⟨n, rfl⟩ : ∃ n, x = .int n := by
        have := List.mem_of_getElem? hx
        simp only [i3, List.mem_cons, List.not_mem_nil, or_false] at this
        rcases this with e | e | e <;> exact ⟨_, e⟩
      refine ⟨rfl, _, rfl, n, rfl, _, e1, ?_, fun b' o h => ?_, ?_⟩
      · rw [List.length_map, List.length_replicate]; exact smallL (by omega)
      · rw [upd_ne (ne_of_none h hD)]; exact s1 _ _ h
      · rw [upd_same, List.replicate_succ', List.map_append]; rfl
    · rintro H' ⟨s1, e1⟩
      refine ⟨D, _, rfl, SqL.of e1, _, rfl, ?_⟩
      rw [show ((List.replicate (i3 r).length true).all id) = true by rfl]
      refine iteT ?_
      have ha' := s1 _ _ ha
      refine ⟨_, rfl, a, _, _, _, rfl, rfl, SqT.of ha', atI_nat (j := 0) rfl, _, rfl, a, _, _, _, rfl, rfl, SqT.of ha', atI_nat (j := 1) rfl, _, _, rfl, rfl, ?_⟩
      show Q (.bl (decide (r.1 ≤ r.2.1))) H'
      rw [decide_eq_true hle]
      exact q _ s1
theorem getLastD_snoc (pre : List Rn) (l d : Rn) : (pre ++ [l]).getLastD d = l := by simp
theorem dropLast_snoc {α : Type} (pre : List α) (l : α) : (pre ++ [l]).dropLast = pre := by simp
theorem i3_mv (t : Int) (r : Rn) : [r.1, r.2.1, r.2.2].map (fun n => n + t) = [(Pm.mv t r).1, (Pm.mv t r).2.1, (Pm.mv t r).2.2] := rfl
theorem cut_but' (ks : List V) (x : V) : cutV (ks ++ [x]) none (some (-1)) = ks ∧ ¬ (HT.sIx (ks ++ [x]).length 0 none = 0 ∧ HT.sIx (ks ++ [x]).length (ks ++ [x]).length (some (-1)) = (ks ++ [x]).length) := by
  have e1 : HT.sIx (ks ++ [x]).length (ks ++ [x]).length (some (-1)) = ks.length := by
    show (if (-1 : Int) < 0 then ((-1 : Int) + ((ks ++ [x]).length : Int)).toNat else min (-1 : Int).toNat (ks ++ [x]).length) = ks.length
    rw [if_pos (by decide), List.length_append]
    simp
    omega
  constructor
  · unfold cutV
    rw [e1, HT.sIx_none]
    simp
  · rw [e1, List.length_append]
    simp
theorem prAt_of {H : Hp} : ∀ {ts : List Addr} {us vs : List V} {bs rs : List Rn}, Paired (RnAt H) us bs → Paired (RnAt H) vs rs → Paired (fun (t : Addr) (z : List V) => H t = some (.tup z)) ts ((us.zip vs).map fun q => [q.1, q.2]) → Paired (PrAt H) (ts.map V.ref) (bs.zip rs)
  | [], _, _, _, _, .nil, _, _ => .nil
  | [], _, _, _, _, .cons _ _, .nil, _ => .nil
  | [], _, _, _, _, .cons _ _, .cons _ _, h => by cases h
  | t :: ts, _, _, _, _, .nil, _, h => by cases h
  | t :: ts, _, _, _, _, .cons _ _, .nil, h => by cases h
  | t :: ts, _, _, _, _, .cons r1 t1, .cons r2 t2, h => by
    cases h with
    | cons e h => exact .cons ⟨t, _, _, rfl, e, r1, r2⟩ (prAt_of t1 t2 h)
theorem ok_pairs {f f1 : Addr} {fd fd1 : FuncData} (B : Blt mg tC) (Drun_pairs : Def K mg "run_pairs" s_run_pairs ["cycle", "runs"] f fd) (Dmoved : Def K mg "moved" s_moved ["run", "ticks"] f1 fd1) : FnOk P w K mg base CX0 2 f fd ["cycle", "runs"] spPairs := by
  have Gmoved := ok_moved (P := P) (w := w) (base := base) B Dmoved
  refine Drun_pairs.F.ok scrun_pairs (fun vs H Q E h => ?_) (fun cdv A outer s H vs Q E hr h => ⟨_, (pss_cons (ps_set (i := 2) scrun_pairs.nd rfl (Or.inl rfl) (pe_lst (pa_cons (pe_call Gmoved (hr.mono (by decide)) (by rfl) Dmoved.g Dmoved.F.kp Dmoved.b .nil pass0 (pa_cons (pe_ix ix_tup (pv 1) (pe_un un_neg pe_int) (fun _ _ => rfl)) (pa_cons (pe_un un_neg (pv 0)) pa_nil))) (StX.pa_star (pe_slice sl_tupA (pv 1) po_none (po_some (pe_un un_neg pe_int))) pa_nil))))
  (pss_one (ps_ret (pe_listZip rfl (by rfl) B.n_list (by rfl) B.n_zip (pa_cons (pv 2) (pa_cons (pv 1) pa_nil)))))), ?_⟩)
  · obtain ⟨c, a, rs, rfl, _⟩ := h; rfl
  · obtain ⟨c, a, rs, rfl, ⟨xs, ha, hP⟩, ne, hl, q⟩ := h
    obtain ⟨pre, l, rfl⟩ : ∃ pre l, rs = pre ++ [l] := by
      rcases List.eq_nil_or_concat rs with e | ⟨pre, l, e⟩
      · exact absurd e ne
      · exact ⟨pre, l, by rw [e, List.concat_eq_append]⟩
    obtain ⟨xp, xl, rfl, hPp, b, rfl, hb⟩ := paired_split hP
    refine ⟨_, rfl, _, rfl, a, _, _, _, rfl, rfl, SqT.of ha, atI_last _ _, _, rfl, _, rfl, b, -c, [l.1, l.2.1, l.2.2], rfl, hb, Nat.le_of_ble_eq_true rfl, fun e H1 s1 hn he => ?_⟩
    have lp := paired_len hPp
    rw [List.length_append] at hl
    have l1 : [l].length = 1 := rfl
    have ha1 := s1 _ _ ha
    refine ⟨_, rfl, _, rfl, _, rfl, a, _, rfl, SqT.of ha1, fun hw => absurd hw (cut_but' xp (.ref b)).2, fun _ S hS => ?_⟩
    rw [(cut_but' xp (.ref b)).1]
    refine ⟨S, xp, rfl, .inl (SqT.of upd_same), ?_⟩
    refine ⟨?_, fun L hL => ?_⟩
    · rw [List.length_cons, List.length_append]
      have := smallL (n := xp.length + 1) (by omega)
      simp only [List.length_nil]; omega
    have sL := (s1.trans (Same.new hS (o := .tup xp))).trans (Same.new hL (o := .lst (.ref e :: (xp ++ []))))
    rw [List.append_nil] at sL
    rw [List.append_nil] at ⊢
    refine ⟨_, rfl, _, rfl, L, a, .ref e :: xp, xp ++ [.ref b], rfl, .inl (SqL.of upd_same), .inr (SqT.of (sL _ _ ha)), ?_, fun H' p ts sm hp hts hp' hpd => ?_⟩
    · rw [List.length_cons, List.length_append]; rfl
    have sA := sL.trans sm
    refine q p _ H' sA hp' ?_
    have p1 : Paired (RnAt H') (.ref e :: xp) (Pm.mv (-c) l :: pre) := .cons ⟨e, rfl, sm _ _ (Same.new hL _ _ (Same.new hS _ _ he))⟩ (rns_mono sA hPp)
    have := prAt_of p1 (rns_mono sA hP) hpd
    unfold prs
    rw [getLastD_snoc, dropLast_snoc]
    exact this
end
end Gr

set_option Elab.async false
set_option linter.all false
set_option pp.deepTerms false
set_option pp.maxSteps 3000
set_option maxRecDepth 100000
set_option maxHeartbeats 4000000
set_option exponentiation.threshold 3000
namespace Gr
open PySem PySem.Spec PyProof.Rows L2
open Pm (Rn)
/-! ### numbers that aren't too great -/
def Fit (x : Int) : Prop := -(10 ^ 300) ≤ x ∧ x ≤ 10 ^ 300
theorem e300 : (10 : Int) ^ 300 < ((2 ^ 1000 : Nat) : Int) := by decide +kernel
theorem Fit.bits {x : Int} (h : Fit x) : x.natAbs < 2 ^ 1000 := by have := e300; unfold Fit at h; omega
theorem fit_div {x c : Int} (hc : 1 ≤ c) : (x / c).natAbs ≤ x.natAbs := by
  have e := Int.emod_add_mul_ediv x c
  have r0 := Int.emod_nonneg x (show c ≠ 0 by omega)
  have r1 := Int.emod_lt_of_pos x (show 0 < c by omega)
  rcases Int.lt_or_le (x / c) 0 with z | z
  · have h : c * (x / c) ≤ c * -1 := Int.mul_le_mul_of_nonneg_left (by omega) (by omega)
    have h2 : (c - 1) * (x / c) ≤ 0 := Int.mul_nonpos_of_nonneg_of_nonpos (by omega) (by omega)
    rw [Int.sub_mul] at h2
    have h3 : -1 * (x / c) ≥ 1 := by omega
    -- x = r + c q, q < 0: |q| ≤ |x|
    by_cases k : x < 0
    · have : x - x % c = c * (x / c) := by omega
      have : (c - 1) * (x / c) + x / c = c * (x / c) := by rw [Int.sub_mul]; omega
      have h4 : (c - 1) * (x / c) ≤ (c - 1) * -1 := Int.mul_le_mul_of_nonneg_left (by omega) (by omega)
      omega
    · have := Int.ediv_nonneg (show 0 ≤ x by omega) (show 0 ≤ c by omega)
      omega
  · have h : 1 * (x / c) ≤ c * (x / c) := Int.mul_le_mul_of_nonneg_right hc z
    omega
theorem fit30 {c : Int} (hc : 1 ≤ c) (h : c ≤ 10 ^ 30) : Fit c := by
  have : (10 : Int) ^ 30 ≤ 10 ^ 300 := by decide +kernel
  have : (0 : Int) ≤ 10 ^ 300 := by decide +kernel
  unfold Fit; omega
theorem divF {x c : Int} (hc : 1 ≤ c) (h : c ≤ 10 ^ 30) : CDivW x c := wide_div (b := 1000) (by omega) (fit30 hc h).bits (by decide) (by decide)
theorem mulF {x c : Int} (hx : Fit x) (hc : 1 ≤ c) (h : c ≤ 10 ^ 30) : CMulW (x / c) c :=
  wide_mul (a := 1000) (b := 1000) (Nat.lt_of_le_of_lt (fit_div hc) hx.bits) (fit30 hc h).bits (by decide) (by decide) (by decide)
theorem prs_goes {c : Int} {rs : List Rn} (ok : Pm.Ok c rs) : ∀ q ∈ prs c rs, Pm.GoesOn q.1 q.2 := by
  rintro ⟨b, r⟩ hq
  obtain ⟨pre, l, rfl⟩ : ∃ pre l, rs = pre ++ [l] := by
    rcases List.eq_nil_or_concat rs with e | ⟨pre, l, e⟩
    · exact absurd e ok.ne
    · exact ⟨pre, l, by rw [e, List.concat_eq_append]⟩
  unfold prs at hq
  rw [getLastD_snoc, dropLast_snoc] at hq
  obtain ⟨j, hj⟩ := List.mem_iff_getElem?.mp hq
  obtain ⟨h1, h2⟩ := List.getElem?_zip_eq_some.mp hj
  cases j with
  | zero =>
    cases h1
    exact ok.cy l (by simp) r (List.mem_of_getElem? h2)
  | succ j =>
    simp only [List.getElem?_cons_succ] at h1
    have hlt := (List.getElem?_eq_some_iff.mp h1).1
    have h1' : (pre ++ [l])[j]? = some b := by rw [List.getElem?_append_left hlt]; exact h1
    exact List.pairwise_iff_getElem.mp ok.pw j (j + 1) (List.getElem?_eq_some_iff.mp h1').1 (List.getElem?_eq_some_iff.mp h2).1 (Nat.lt_succ_self j) |> fun g => by
      rw [(List.getElem?_eq_some_iff.mp h1').2, (List.getElem?_eq_some_iff.mp h2).2] at g
      exact g
def RowAt (H : Hp) (x : V) (ns : List Int) : Prop := ∃ b, x = .ref b ∧ H b = some (.tup (ns.map V.int))
theorem RowAt.mono {H H' : Hp} {x : V} {ns : List Int} (s : Same H H') (h : RowAt H x ns) : RowAt H' x ns := by
  obtain ⟨b, e, h⟩ := h; exact ⟨b, e, s _ _ h⟩
def homeL (c : Int) (ns : List Int) : List Int := ns.map fun n => n + -(ns.headD 0 / c * c)
def spAsc : Sp := fun vs H Q _ => ∃ (c : Int) (a : Addr) (xs : List V) (nss : List (List Int)) (d : Nat), vs = [.int c, .ref a] ∧ H a = some (.lst xs) ∧ Paired (RowAt H) xs nss ∧ 1 ≤ c ∧ c ≤ 10 ^ 30 ∧ 1 ≤ d ∧ d ≤ 100 ∧ nss.length ≤ 50000 ∧ (∀ ns ∈ nss, ns.length = d ∧ Fit (ns.headD 0)) ∧
  ∀ p ys zs H', Same H H' → H p = none → H' p = some (.lst ys) → Paired (RowAt H') ys zs → zs.Perm (nss.map (homeL c)) → zs.Pairwise (fun a b => TsO.lexL b a = false) → Q (.ref p) H'
/-- the numbers of a row, read off the heap -/
def kRow (H : Hp) (x : V) : List Int := match x with
  | .ref b => match H b with
    | some (.tup vs) => vs.filterMap fun v => match v with | .int i => some i | _ => none
    | _ => []
  | _ => []
theorem kRow_at {H : Hp} {x : V} {ns : List Int} (h : RowAt H x ns) : kRow H x = ns := by
  obtain ⟨b, rfl, h⟩ := h
  unfold kRow
  simp only [h]
  induction ns with
  | nil => rfl
  | cons n ns ih =>
    have : ∀ ms : List Int, (ms.map V.int).filterMap (fun v => match v with | .int i => some i | _ => none) = ms := fun ms => by
      induction ms with
      | nil => rfl
      | cons m ms ih => simp [ih]
    exact this _
theorem kRow_map {H : Hp} : ∀ {xs : List V} {nss : List (List Int)}, Paired (RowAt H) xs nss → xs.map (kRow H) = nss
  | _, _, .nil => rfl
  | _, _, .cons r t => by rw [List.map_cons, kRow_at r, kRow_map t]
theorem row_mem {H : Hp} : ∀ {xs : List V} {nss : List (List Int)}, Paired (RowAt H) xs nss → ∀ x ∈ xs, RowAt H x (kRow H x)
  | _, _, .cons r t, x, m => by
    rcases List.mem_cons.mp m with rfl | m
    · rw [kRow_at r]; exact r
    · exact row_mem t x m
theorem row_of {H : Hp} : ∀ {xs : List V}, (∀ x ∈ xs, RowAt H x (kRow H x)) → Paired (RowAt H) xs (xs.map (kRow H))
  | [], _ => .nil
  | x :: xs, h => .cons (h x (by simp)) (row_of fun y m => h y (List.mem_cons_of_mem _ m))
section
variable {P : Program} {w : World} {K : PySem.W.Frag} {mg : Str → Option Value} {base : Heap} {tC : Tok}
theorem ok_are {f f1 f2 f3 f4 f5 f6 : Addr} {fd fd1 fd2 fd3 fd4 fd5 fd6 : FuncData} (B : Blt mg tC) (Dare_runs : Def K mg "are_runs" s_are_runs ["cycle", "value"] f fd) (Dis_run : Def K mg "is_run" s_is_run ["value"] f1 fd1) (Dis_whole : Def K mg "is_whole" s_is_whole ["value"] f2 fd2) (Dgoes_on : Def K mg "goes_on" s_goes_on ["before", "run"] f3 fd3) (Dlast_arrival : Def K mg "last_arrival" s_last_arrival ["run"] f4 fd4) (Drun_pairs : Def K mg "run_pairs" s_run_pairs ["cycle", "runs"] f5 fd5) (Dmoved : Def K mg "moved" s_moved ["run", "ticks"] f6 fd6) : FnOk P w K mg base CX0 3 f fd ["cycle", "value"] spAre := by
  have Gis_run := ok_is_run (P := P) (w := w) (base := base) B Dis_run Dis_whole
  have Ggoes_on := ok_goes (P := P) (w := w) (base := base) B Dgoes_on Dlast_arrival
  have Grun_pairs := ok_pairs (P := P) (w := w) (base := base) B Drun_pairs Dmoved
  refine Dare_runs.F.ok scare_runs (fun vs H Q E h => ?_) (fun cdv A outer s H vs Q E hr h => ⟨_, (pss_cons (ps_if (PW.pt (pw_or (pt_not (pt_val (pe_callB call_isi (by rfl) B.n_isinstance (by decide +kernel) (pa_cons (pv 1) (pa_cons (pe_bltn (v := .ty "tuple") (u := .type "tuple") (by rfl) B.n_tuple (by decide +kernel) rfl) pa_nil))))) (pw_or1 (pt_cmpR op_eq (pe_callB call_len_seq (by rfl) B.len PySem.boot_len (pa_cons (pv 1) pa_nil)) pe_int (nomark _)))))
   (pss_one (ps_ret pe_bl))
   pss_nil)
  (pss_cons (ps_if (pt_not (pt_val (pe_callB (cr_all rfl) (by rfl) B.n_all (by decide +kernel) (pa_cons (pe_lc (own := [("run", 2)]) (g := (gName 2)) (tt := tYes) rfl scare_runs.nd (pi_tup (pv 1)) (blkOk_by (N := ["cycle", "value", "run", "before"]) (sc := defScope s_are_runs) (by decide +kernel)) (fun _ _ _ _ _ => (pg_name (i := 2) scare_runs.nd rfl (Or.inl rfl))) (fun _ _ _ _ _ => pts_nil) (fun _ _ _ _ _ => (pe_call Gis_run (hr.mono (by decide)) (by rfl) Dis_run.g Dis_run.F.kp Dis_run.b .nil pass0 (pa_cons (pv 2) pa_nil)))) pa_nil))))
   (pss_one (ps_ret pe_bl))
   pss_nil)
  (pss_one (ps_ret (pe_callB (cr_all rfl) (by rfl) B.n_all (by decide +kernel) (pa_cons (pe_lc (own := [("before", 3), ("run", 2)]) (g := (gTup K 2 (gCons (gName 3) (gCons (gName 2) gNil)))) (tt := tYes) rfl scare_runs.nd (pi_list (pe_call Grun_pairs (hr.mono (by decide)) (by rfl) Drun_pairs.g Drun_pairs.F.kp Drun_pairs.b .nil pass0 (pa_cons (pv 0) (pa_cons (pv 1) pa_nil)))) (blkOk_by (N := ["cycle", "value", "run", "before"]) (sc := defScope s_are_runs) (by decide +kernel)) (fun _ _ _ _ _ => (pg_tup rfl (pgs_cons (pg_name (i := 3) scare_runs.nd rfl (Or.inl rfl)) (pgs_cons (pg_name (i := 2) scare_runs.nd rfl (Or.inl rfl)) pgs_nil)))) (fun _ _ _ _ _ => pts_nil) (fun _ _ _ _ _ => (pe_call Ggoes_on (hr.mono (by decide)) (by rfl) Dgoes_on.g Dgoes_on.F.kp Dgoes_on.b .nil pass0 (pa_cons (pv 3) (pa_cons (pv 2) pa_nil))))) pa_nil)))))), ?_⟩)
  · obtain ⟨c, a, rs, rfl, _⟩ := h; rfl
  · obtain ⟨c, a, rs, rfl, ⟨xs, ha, hP⟩, ok, hl, q⟩ := h
    have lx := paired_len hP
    have l0 : rs.length ≠ 0 := fun e => ok.ne (List.length_eq_zero_iff.mp e)
    refine ⟨_, rfl, .ref a, .ty "tuple", .type "tuple", .type "tuple", true, rfl, .ty _, .base (.tup ha), kit_ty (by decide +kernel), _, rfl, ?_⟩
    refine ⟨_, rfl, a, _, rfl, .inr (SqT.of ha), rfl, _, rfl, ?_⟩
    refine iteN (fun e => l0 (by have := V.int.inj e; omega)) ?_
    refine ⟨_, rfl, a, rfl, ⟨_, SqT.of ha⟩, fun D hD => ?_⟩
    refine lc_tup (xs := xs) (fun i H' => Same H H' ∧ H' D = some (.lst ((List.replicate i true).map V.bl))) ⟨Same.new hD, upd_same⟩ (fun i H' _ ⟨s1, _⟩ => SqT.of (s1 _ _ ha)) ?_ ?_
    · rintro i x H' hx ⟨s1, e1⟩
      have hi := (List.getElem?_eq_some_iff.mp hx).1
      obtain ⟨r, hg, hr'⟩ := paired_at hP hx
      refine ⟨rfl, _, rfl, x, r, rfl, hr'.mono s1, ok.fl r (List.mem_of_getElem? hg), fun H2 s2 => ⟨_, s2 _ _ e1, ?_, fun b' o h => ?_, ?_⟩⟩
      · rw [List.length_map, List.length_replicate]; exact smallL (by omega)
      · rw [upd_ne (ne_of_none h hD)]; exact s2 _ _ (s1 _ _ h)
      · rw [upd_same, List.replicate_succ', List.map_append]; rfl
    · rintro H' ⟨s1, e1⟩
      refine ⟨D, _, rfl, SqL.of e1, _, rfl, ?_⟩
      rw [show ((List.replicate xs.length true).all id) = true by simp]
      refine iteF ?_
      refine ⟨_, rfl, _, rfl, c, a, rs, rfl, ⟨xs, s1 _ _ ha, rns_mono s1 hP⟩, ok.ne, hl, fun p ps H2 s2 hp hpd => ⟨p, rfl, ⟨_, SqL.of hp⟩, fun D2 hD2 => ?_⟩⟩
      have lps := paired_len hpd
      have lpr : (prs c rs).length ≤ rs.length := by unfold prs; rw [List.length_zip]; exact Nat.min_le_right _ _
      refine lc_list (xs := ps) (fun i H' => Same H2 H' ∧ H' D2 = some (.lst ((List.replicate i true).map V.bl))) ⟨Same.new hD2, upd_same⟩ (fun i H' _ ⟨s1, _⟩ => SqL.of (s1 _ _ hp)) ?_ ?_
      · rintro i x H' hx ⟨s3, e3⟩
        have hi := (List.getElem?_eq_some_iff.mp hx).1
        obtain ⟨⟨b, r⟩, hg, t, u, v, rfl, ht, hu, hv⟩ := paired_at hpd hx
        refine ⟨t, _, rfl, SqT.of (s3 _ _ ht), rfl, _, _, rfl, _, _, rfl, rfl, rfl, ?_⟩
        refine ⟨_, rfl, _, rfl, u, v, b, r, rfl, hu.mono s3, hv.mono s3, _, e3, ?_, fun b' o h => ?_, ?_⟩
        · rw [List.length_map, List.length_replicate]; exact smallL (by omega)
        · rw [upd_ne (ne_of_none h hD2)]; exact s3 _ _ h
        · rw [upd_same, List.replicate_succ', List.map_append, decide_eq_true (prs_goes ok _ (List.mem_of_getElem? hg))]; rfl
      · rintro H' ⟨s3, e3⟩
        refine ⟨D2, _, rfl, SqL.of e3, ?_⟩
        rw [show ((List.replicate ps.length true).all id) = true by simp]
        exact q H' ((s1.trans s2).trans s3)
theorem ok_asc {f f1 : Addr} {fd fd1 : FuncData} (B : Blt mg tC) (Dascending : Def K mg "ascending" s_ascending ["cycle", "rows"] f fd) (Dmoved : Def K mg "moved" s_moved ["run", "ticks"] f1 fd1) : FnOk P w K mg base CX0 2 f fd ["cycle", "rows"] spAsc := by
  have Gmoved := ok_moved (P := P) (w := w) (base := base) B Dmoved
  refine Dascending.F.ok scascending (fun vs H Q E h => ?_) (fun cdv A outer s H vs Q E hr h => ⟨_, (pss_one (ps_ret (pe_callB cr_sortedTs (by rfl) B.n_sorted (by decide +kernel) (pa_cons (pe_lc (own := [("row", 2)]) (g := (gName 2)) (tt := tYes) rfl scascending.nd (pi_list (pv 1)) (blkOk_by (N := ["cycle", "rows", "row"]) (sc := defScope s_ascending) (by decide +kernel)) (fun _ _ _ _ _ => (pg_name (i := 2) scascending.nd rfl (Or.inl rfl))) (fun _ _ _ _ _ => pts_nil) (fun _ _ _ _ _ => (pe_call Gmoved (hr.mono (by decide)) (by rfl) Dmoved.g Dmoved.F.kp Dmoved.b .nil pass0 (pa_cons (pv 2) (pa_cons (pe_un un_neg (pe_op op_mulW (pe_op op_fdivW (pe_ix (r := rIxT K) (by exact ix_tup) (pv 2) pe_int (fun _ _ => rfl)) (pv 0)) (pv 0))) pa_nil))))) pa_nil)))), ?_⟩)
  · obtain ⟨c, a, xs, nss, d, rfl, _⟩ := h; rfl
  · obtain ⟨c, a, xs, nss, d, rfl, ha, hP, c1, c30, d1, d100, hl, hn, q⟩ := h
    have lx := paired_len hP
    refine ⟨_, rfl, a, rfl, ⟨_, SqL.of ha⟩, fun D hD => ?_⟩
    refine lc_list (xs := xs) (fun i H' => ∃ ys, Same H H' ∧ H' D = some (.lst ys) ∧ Paired (RowAt H') ys ((nss.take i).map (homeL c))) ⟨[], Same.new hD, upd_same, .nil⟩ (fun i H' _ ⟨_, s1, _⟩ => SqL.of (s1 _ _ ha)) ?_ ?_
    · rintro i x H' hx ⟨ys, s1, e1, hY⟩
      obtain ⟨ns, hg, b, rfl, hb⟩ := paired_at hP hx
      have hns := hn ns (List.mem_of_getElem? hg)
      have hb' := s1 _ _ hb
      match ns, hns with
      | [], hns => simp at hns; omega
      | n :: ns, hns =>
        have ly := paired_len hY
        rw [List.length_map, List.length_take] at ly
        refine ⟨rfl, _, rfl, _, rfl, b, _, _, _, rfl, rfl, SqT.of hb', atI_nat (j := 0) rfl, _, rfl, _, _, rfl, rfl, divF c1 c30, _, rfl, _, _, rfl, rfl, mulF hns.2 c1 c30, _, rfl, b, _, n :: ns, rfl, hb', by rw [hns.1]; exact d100, fun e H2 s2 he0 he => ⟨ys, s2 _ _ e1, smallL (by omega), ys ++ [.ref e], fun b' o h => ?_, upd_same, ?_⟩⟩
        · rw [upd_ne (ne_of_none h hD)]; exact s2 _ _ (s1 _ _ h)
        · rw [List.take_add_one, hg, List.map_append]
          have nD : ∀ b' o, H' b' = some o → b' ≠ D → (upd H2 D (.lst (ys ++ [.ref e]))) b' = some o := fun b' o h1 h2 => by rw [upd_ne h2]; exact s2 _ _ h1
          refine paired_snoc (L2.Paired.mapP hY fun _ _ ⟨b', e', h'⟩ => ⟨b', e', nD _ _ h' (ne_of h' e1 (fun z => nomatch z))⟩) ⟨e, rfl, ?_⟩
          rw [upd_ne (fun z => by rw [z, e1] at he0; cases he0)]
          exact he
    · rintro H' ⟨ys, s1, e1, hY⟩
      rw [List.take_of_length_le (by omega)] at hY
      have ly := paired_len hY
      refine ⟨D, ys, kRow H', d, rfl, SqL.of e1, d1, fun x hx => ?_, fun zs p pm pw hp => ?_⟩
      · obtain ⟨b, e, h⟩ := row_mem hY x hx
        refine ⟨?_, b, e, h⟩
        have : kRow H' x ∈ nss.map (homeL c) := by rw [← kRow_map hY]; exact List.mem_map.mpr ⟨x, hx, rfl⟩
        obtain ⟨ns, hm, e2⟩ := List.mem_map.mp this
        rw [← e2]
        show (homeL c ns).length = d
        unfold homeL
        rw [List.length_map]
        exact (hn ns hm).1
      · have hz : Paired (RowAt H') zs (zs.map (kRow H')) := row_of fun x hx => row_mem hY x (pm.mem_iff.mp hx)
        refine q p zs (zs.map (kRow H')) _ (s1.trans (Same.new hp)) (s1.free hp) upd_same (L2.Paired.mapP hz fun _ _ r => r.mono (Same.new hp)) ?_ ?_
        · rw [← kRow_map hY]
          exact pm.map _
        · rw [List.pairwise_map]
          exact pw
end
end Gr

set_option Elab.async false
set_option linter.all false
set_option pp.deepTerms false
set_option pp.maxSteps 3000
set_option maxRecDepth 100000
set_option maxHeartbeats 4000000
set_option exponentiation.threshold 3000
namespace Gr
open PySem PySem.Spec PyProof.Rows L2
open Pm (Rn)
def BR (m : Int) (rs : List Rn) : Prop := ∀ r ∈ rs, -m ≤ r.1 ∧ r.1 ≤ m ∧ -m ≤ r.2.2 ∧ r.2.2 ≤ m
def BA (m : Int) (rs : List Rn) : Prop := ∀ r ∈ rs, -m ≤ r.2.2 ∧ r.2.2 ≤ m
theorem cut_one (x : V) (xs : List V) : cutV (x :: xs) (some 1) none = xs ∧ ¬ (HT.sIx (x :: xs).length 0 (some 1) = 0 ∧ HT.sIx (x :: xs).length (x :: xs).length none = (x :: xs).length) := by
  have e1 := HT.sIx_nat (x :: xs).length 0 1
  have e2 := HT.sIx_none (x :: xs).length (x :: xs).length
  have l : min 1 (x :: xs).length = 1 := by rw [List.length_cons]; omega
  rw [l] at e1
  constructor
  · unfold cutV
    rw [show (1 : Int) = ((1 : Nat) : Int) from rfl, e1, e2]
    simp
  · rw [show (1 : Int) = ((1 : Nat) : Int) from rfl, e1]
    omega
/-- what the loop of longest_runs keeps: the joined runs, and those that are left -/
structure LInv (c m : Int) (rs J rest : List Rn) : Prop where
  ne : J ≠ []
  nj : Pm.NJ J
  ok : Pm.Ok c (J ++ rest)
  g : ∀ z y, Pm.G c rs z y ↔ Pm.G c (J ++ rest) z y
  b : BR m J
theorem LInv.join {c m : Int} {rs K rest : List Rn} {l r : Rn} (h : LInv c m rs (K ++ [l]) (r :: rest)) (j : Pm.Joins l r) : LInv c m rs (K ++ [(l.1, r.2.1, l.2.2)]) rest := by
  have o := h.ok
  have g := h.g
  rw [List.append_assoc, List.singleton_append] at o g
  refine ⟨by simp, h.nj.relast rfl rfl, ?_, fun z y => ?_, fun s hs => ?_⟩
  · rw [List.append_assoc, List.singleton_append]; exact o.join j
  · rw [g z y, List.append_assoc, List.singleton_append]
    exact Pm.G_join (o.fl l (by simp)) (o.fl r (by simp)) j z y
  · rcases List.mem_append.mp hs with hs | hs
    · exact h.b s (List.mem_append_left _ hs)
    · rw [List.mem_singleton.mp hs]; exact h.b l (by simp)
theorem LInv.push {c m : Int} {rs K rest : List Rn} {l r : Rn} (h : LInv c m rs (K ++ [l]) (r :: rest)) (hb : -m ≤ r.1 ∧ r.1 ≤ m ∧ -m ≤ r.2.2 ∧ r.2.2 ≤ m) (j : ¬ Pm.Joins l r) : LInv c m rs (K ++ [l] ++ [r]) rest := by
  have o := h.ok
  have g := h.g
  refine ⟨by simp, h.nj.snoc j, by rw [List.append_assoc, List.singleton_append]; exact o, fun z y => by rw [List.append_assoc, List.singleton_append]; exact g z y, fun s hs => ?_⟩
  rcases List.mem_append.mp hs with hs | hs
  · exact h.b s hs
  · rw [List.mem_singleton.mp hs]; exact hb
theorem rns_upd {H : Hp} {J : Addr} {us : List V} {o : HO} (h : H J = some (.lst us)) {xs : List V} {rs : List Rn} (p : Paired (RnAt H) xs rs) : Paired (RnAt (upd H J o)) xs rs :=
  L2.Paired.mapP p fun _ _ ⟨b, e, hb⟩ => ⟨b, e, by rw [upd_ne (ne_of hb h (fun z => nomatch z))]; exact hb⟩
theorem same_upd {H0 H : Hp} {J : Addr} {o : HO} (s : Same H0 H) (h : H0 J = none) : Same H0 (upd H J o) := fun b u e => by
  rw [upd_ne (ne_of_none e h)]; exact s b u e
def row3 (r : Rn) : List Int := [r.1, r.2.1, r.2.2]
def unrow (ns : List Int) : Rn := (ns.getD 0 0, ns.getD 1 0, ns.getD 2 0)
theorem unrow_row (r : Rn) : unrow (row3 r) = r := rfl
theorem row_rn {H : Hp} : ∀ {xs : List V} {rs : List Rn}, Paired (RnAt H) xs rs → Paired (RowAt H) xs (rs.map row3)
  | _, _, .nil => .nil
  | _, _, .cons ⟨b, e, h⟩ t => .cons ⟨b, e, h⟩ (row_rn t)
theorem rn_row {H : Hp} : ∀ {xs : List V} {rs : List Rn}, Paired (RowAt H) xs (rs.map row3) → Paired (RnAt H) xs rs
  | _, [], .nil => .nil
  | _, _ :: _, .cons ⟨b, e, h⟩ t => .cons ⟨b, e, h⟩ (rn_row t)
theorem home_row (c : Int) (r : Rn) : homeL c (row3 r) = row3 (Pm.home c r) := rfl
/-- what a sorted list of rows is -/
theorem rows_back {c : Int} {X : List Rn} {zs : List (List Int)} (pm : zs.Perm ((X.map row3).map (homeL c))) (pw : zs.Pairwise fun a b => TsO.lexL b a = false) :
    ∃ Z : List Rn, zs = Z.map row3 ∧ Z.Perm (X.map (Pm.home c)) ∧ Z.Pairwise fun a b => a.1 ≤ b.1 := by
  have e0 : (X.map row3).map (homeL c) = (X.map (Pm.home c)).map row3 := by
    rw [List.map_map, List.map_map]; rfl
  rw [e0] at pm
  have e1 : zs = (zs.map unrow).map row3 := by
    rw [List.map_map]
    refine (List.map_id' zs).symm.trans (List.map_congr_left fun z hz => ?_)
    obtain ⟨r, _, e⟩ := List.mem_map.mp (pm.mem_iff.mp hz)
    subst e
    rfl
  refine ⟨zs.map unrow, e1, ?_, ?_⟩
  · have := pm.map unrow
    rw [List.map_map] at this
    have e2 : (X.map (Pm.home c)).map (unrow ∘ row3) = X.map (Pm.home c) := by
      refine (List.map_congr_left fun r _ => unrow_row r).trans (List.map_id' _)
    rw [e2] at this
    exact this
  · rw [e1, List.pairwise_map] at pw
    refine pw.imp fun {a b} h => ?_
    unfold row3 TsO.lexL at h
    split at h
    · omega
    · have := of_decide_eq_false h; omega
theorem ba_home {c m : Int} (c1 : 1 ≤ c) {X Z : List Rn} (hb : BR m X) (p : Z.Perm (X.map (Pm.home c))) : BA (2 * m + c) Z := fun r hr => by
  obtain ⟨x, hx, e⟩ := List.mem_map.mp (p.mem_iff.mp hr)
  have := hb x hx
  have h1 := Pm.home_rng c1 x
  subst e
  unfold Pm.home at *
  simp only [Pm.mv1, Pm.mv3] at *
  omega
def spLongest : Sp := fun vs H Q _ => ∃ (c m : Int) (a : Addr) (rs : List Rn), vs = [.int c, .ref a] ∧ RnsT H a rs ∧ Pm.Ok c rs ∧ c ≤ 10 ^ 30 ∧ rs.length ≤ 50000 ∧ BR m rs ∧ m ≤ 10 ^ 200 ∧
  ∀ p H' Z, Same H H' → RnsT H' p Z → Pm.Can c Z → (∀ z y, Pm.G c rs z y ↔ Pm.G c Z z y) → Z.length ≤ rs.length → BA (2 * m + c) Z → Q (.ref p) H'
section
variable {P : Program} {w : World} {K : PySem.W.Frag} {mg : Str → Option Value} {base : Heap} {tC : Tok}
theorem ok_longest {f f1 f2 f3 f4 : Addr} {fd fd1 fd2 fd3 fd4 : FuncData} (B : Blt mg tC) (Dlongest_runs : Def K mg "longest_runs" s_longest_runs ["cycle", "runs"] f fd) (Djoins : Def K mg "joins" s_joins ["before", "run"] f1 fd1) (Dlast_arrival : Def K mg "last_arrival" s_last_arrival ["run"] f2 fd2) (Dmoved : Def K mg "moved" s_moved ["run", "ticks"] f3 fd3) (Dascending : Def K mg "ascending" s_ascending ["cycle", "rows"] f4 fd4) : FnOk P w K mg base CX0 3 f fd ["cycle", "runs"] spLongest := by
  have Gjoins := ok_joins (P := P) (w := w) (base := base) B Djoins Dlast_arrival
  have Gmoved := ok_moved (P := P) (w := w) (base := base) B Dmoved
  have Gascending := ok_asc (P := P) (w := w) (base := base) B Dascending Dmoved
  refine Dlongest_runs.F.ok sclongest_runs (fun vs H Q E h => ?_) (fun cdv A outer s H vs Q E hr h => ⟨_, (pss_cons (ps_set (i := 2) sclongest_runs.nd rfl (Or.inl rfl) (pe_lst (pa_cons (pe_ix ix_tup (pv 1) pe_int (fun _ _ => rfl)) pa_nil)))
  (pss_cons (ps_for PassesOwn.never rfl (pi_tup (pe_slice sl_tupA (pv 1) (po_some pe_int) po_none)) (pg_tup rfl (pgs_cons (pg_name (i := 3) sclongest_runs.nd rfl (Or.inl rfl)) (pgs_cons (pg_name (i := 4) sclongest_runs.nd rfl (Or.inl rfl)) (pgs_cons (pg_name (i := 5) sclongest_runs.nd rfl (Or.inl rfl)) pgs_nil))))
   (pss_one (ps_if (pt_val (pe_call Gjoins (hr.mono (by decide)) (by rfl) Djoins.g Djoins.F.kp Djoins.b .nil pass0 (pa_cons (pe_ix ix_list (pv 2) (pe_un un_neg pe_int) (fun _ _ => rfl)) (pa_cons (pe_tup (pa_cons (pv 3) (pa_cons (pv 4) (pa_cons (pv 5) pa_nil)))) pa_nil))))
   (pss_cons (ps_asg (pe_ix ix_list (pv 2) (pe_un un_neg pe_int) (fun _ _ => rfl)) (pg_tup rfl (pgs_cons (pg_name (i := 6) sclongest_runs.nd rfl (Or.inl rfl)) (pgs_cons (pg_name (i := 7) sclongest_runs.nd rfl (Or.inl rfl)) (pgs_cons (pg_name (i := 8) sclongest_runs.nd rfl (Or.inl rfl)) pgs_nil)))))
  (pss_one (ps_asg (pe_tup (pa_cons (pv 6) (pa_cons (pv 4) (pa_cons (pv 8) pa_nil)))) (pg_sub (pv 2) (pe_un un_neg pe_int) set_list))))
   (pss_one (ps_expr (pe_bm PySem.F.plainAttrs_list PySem.F.slot_list_append PySem.F.type_list_append mt_append (pv 2) (pa_cons (pe_tup (pa_cons (pv 3) (pa_cons (pv 4) (pa_cons (pv 5) pa_nil)))) pa_nil)))))))
  (pss_cons (ps_asg (pe_ix ix_list (pv 2) pe_int (fun _ _ => rfl)) (pg_tup rfl (pgs_cons (pg_name (i := 3) sclongest_runs.nd rfl (Or.inl rfl)) (pgs_cons (pg_name (i := 4) sclongest_runs.nd rfl (Or.inl rfl)) (pgs_cons (pg_name (i := 5) sclongest_runs.nd rfl (Or.inl rfl)) pgs_nil)))))
  (pss_cons (ps_if (pt_cmpR op_eq (pe_op op_sub (pv 4) (pv 3)) (pe_op op_sub (pv 0) pe_int) (nomark _))
   (pss_one (ps_ret (pe_tup (pa_cons (pe_tup (pa_cons pe_int (pa_cons (pe_op op_sub (pv 0) pe_int) (pa_cons (pe_op op_sub (pv 5) (pv 3)) pa_nil)))) pa_nil))))
   pss_nil)
  (pss_cons (ps_asg (pe_ix ix_list (pv 2) (pe_un un_neg pe_int) (fun _ _ => rfl)) (pg_tup rfl (pgs_cons (pg_name (i := 6) sclongest_runs.nd rfl (Or.inl rfl)) (pgs_cons (pg_name (i := 9) sclongest_runs.nd rfl (Or.inl rfl)) (pgs_cons (pg_name (i := 8) sclongest_runs.nd rfl (Or.inl rfl)) pgs_nil)))))
  (Evl.pss_cut (ps_if (pt_val (pe_call Gjoins (hr.mono (by decide)) (by rfl) Djoins.g Djoins.F.kp Djoins.b .nil pass0 (pa_cons (pe_tup (pa_cons (pv 6) (pa_cons (pv 9) (pa_cons (pv 8) pa_nil)))) (pa_cons (pe_call Gmoved (hr.mono (by decide)) (by rfl) Dmoved.g Dmoved.F.kp Dmoved.b .nil pass0 (pa_cons (pe_ix ix_list (pv 2) pe_int (fun _ _ => rfl)) (pa_cons (pv 0) pa_nil))) pa_nil))))
   (pss_one (ps_set (i := 2) sclongest_runs.nd rfl (Or.inl rfl) (pe_lst (pa_cons (pe_tup (pa_cons (pv 6) (pa_cons (pe_op op_add (pv 4) (pv 0)) (pa_cons (pv 8) pa_nil)))) (StX.pa_star (pe_slice sl_list (pv 2) (po_some pe_int) (po_some (pe_un un_neg pe_int))) pa_nil)))))
   pss_nil)
  (pss_one (ps_ret (pe_callTy call_tuple_of (by rfl) B.n_tuple (by decide +kernel) (pa_cons (pe_call Gascending (hr.mono (by decide)) (by rfl) Dascending.g Dascending.F.kp Dascending.b .nil pass0 (pa_cons (pv 0) (pa_cons (pv 2) pa_nil))) pa_nil)))))))))), ?_⟩)
  · obtain ⟨c, m, a, rs, rfl, _⟩ := h; rfl
  · obtain ⟨c, m, a, rs, rfl, ⟨xs, ha, hP⟩, ok, c30, hl, hB, m200, q⟩ := h
    have c1 := ok.c1
    match rs, xs, hP, ok.ne with
    | r0 :: rest, x0 :: xr, .cons hr0 hPr, _ =>
      have lr := paired_len hPr
      have one : 1 ≤ sizeLine := by decide
      have three : 3 ≤ sizeLine := by decide
      refine ⟨_, rfl, a, _, _, _, rfl, rfl, SqT.of ha, atI_nat (j := 0) rfl, one, fun J hJ => ?_⟩
      have sJ := Same.new hJ (o := .lst [x0])
      refine ⟨_, rfl, _, rfl, ?_⟩
      unfold tNoPart
      refine ⟨a, _, rfl, SqT.of (sJ _ _ ha), fun hw => absurd hw (cut_one x0 xr).2, fun _ S hS => ?_⟩
      rw [(cut_one x0 xr).1]
      have nSJ : J ≠ S := fun e => by rw [← e, upd_same] at hS; cases hS
      have sS := Same.new hS (o := .tup xr)
      refine ⟨S, rfl, ⟨_, SqT.of upd_same⟩, ?_⟩
      refine for_tup (xs := xr) (fun i σ H' => ∃ y3 y4 y5 y6 y7 y8 y9 us Jl, σ = [some (.int c), some (.ref a), some (.ref J), y3, y4, y5, y6, y7, y8, y9] ∧ Same H H' ∧ H' S = some (.tup xr) ∧ H' J = some (.lst us) ∧ Paired (RnAt H') us Jl ∧ Jl.length ≤ i + 1 ∧ LInv c m (r0 :: rest) Jl (rest.drop i))
        ⟨none, none, none, none, none, none, none, [x0], [r0], rfl, sJ.trans sS, upd_same, by rw [upd_ne nSJ]; exact upd_same, .cons (hr0.mono (sJ.trans sS)) .nil, Nat.le_refl _, ⟨by simp, trivial, ok, fun z y => Iff.rfl, fun s hs => by rw [List.mem_singleton.mp hs]; exact hB r0 (by simp)⟩⟩
        (fun i σ H' _ ⟨_, _, _, _, _, _, _, _, _, _, _, e, _⟩ => SqT.of e) ?_ ?_
      · rintro i x σ H' hx ⟨y3, y4, y5, y6, y7, y8, y9, us, Jl, rfl, s1, eS, eJ, hJl, lJ, inv⟩
        obtain ⟨r, hg, b, rfl, hb0⟩ := paired_at hPr hx
        have hi := (List.getElem?_eq_some_iff.mp hg).1
        have hb := s1 _ _ hb0
        have ed : rest.drop i = r :: rest.drop (i + 1) := by
          rw [List.drop_eq_getElem_cons hi, (List.getElem?_eq_some_iff.mp hg).2]
        rw [ed] at inv
        obtain ⟨Kl, l, rfl⟩ : ∃ Kl l, Jl = Kl ++ [l] := by
          rcases List.eq_nil_or_concat Jl with e | ⟨p, l, e⟩
          · exact absurd e inv.ne
          · exact ⟨p, l, by rw [e, List.concat_eq_append]⟩
        obtain ⟨ks, xl, rfl, hK, bl, rfl, hbl⟩ := paired_split hJl
        have lK := paired_len hK
        refine ⟨b, _, rfl, SqT.of hb, rfl, _, _, rfl, _, _, rfl, _, _, rfl, rfl, ?_⟩
        refine ⟨_, rfl, _, rfl, J, _, _, _, rfl, rfl, SqL.of eJ, atI_last _ _, _, rfl, _, rfl, _, rfl, three, fun T hT => ⟨.ref bl, .ref T, l, r, rfl, ⟨bl, rfl, Same.new hT _ _ hbl⟩, ⟨T, rfl, upd_same⟩, _, rfl, ?_⟩⟩
        have sT := Same.new hT (o := .tup [.int r.1, .int r.2.1, .int r.2.2])
        have eJT := sT _ _ eJ
        have lKl : (Kl ++ [l]).length = Kl.length + 1 := by rw [List.length_append]; rfl
        by_cases j : Pm.Joins l r
        · refine iteY j ?_
          refine ⟨_, rfl, _, rfl, J, _, _, _, rfl, rfl, SqL.of eJT, atI_last _ _, bl, _, rfl, SqT.of (sT _ _ hbl), rfl, _, _, rfl, _, _, rfl, _, _, rfl, rfl, ?_⟩
          refine ⟨_, rfl, _, rfl, _, rfl, three, fun T2 hT2 => ?_⟩
          have sT2 := sT.trans (Same.new hT2 (o := .tup [.int l.1, .int r.2.1, .int l.2.2]))
          refine ⟨_, rfl, _, rfl, J, _, _, ks.length, rfl, rfl, sT2 _ _ eJ, ixN_last _ _, ?_⟩
          have nJ2 : T2 ≠ J := fun e => by rw [e, eJT] at hT2; cases hT2
          refine ⟨_, _, _, _, _, _, _, ks ++ [.ref T2], Kl ++ [(l.1, r.2.1, l.2.2)], rfl, same_upd (s1.trans sT2) hJ, ?_, ?_, ?_, ?_, inv.join j⟩
          · rw [upd_ne nSJ.symm]; exact sT2 _ _ eS
          · rw [upd_same, set_last]
          · exact paired_snoc (rns_upd (sT2 _ _ eJ) (rns_mono sT2 hK)) ⟨T2, rfl, by rw [upd_ne nJ2]; exact upd_same⟩
          · rw [List.length_append] at lJ ⊢
            simp only [List.length_singleton] at lJ ⊢
            omega
        · refine iteN j ?_
          refine ⟨_, rfl, .inl ⟨rfl, _, SqL.of eJT⟩, _, rfl, _, rfl, _, rfl, three, fun T2 hT2 => ?_⟩
          have sT2 := sT.trans (Same.new hT2 (o := .tup [.int r.1, .int r.2.1, .int r.2.2]))
          have nJ2 : T2 ≠ J := fun e => by rw [e, eJT] at hT2; cases hT2
          have lus : (ks ++ [V.ref bl]).length ≤ 60000 := by
            have := paired_len hJl
            rw [List.length_cons] at hl
            omega
          refine ⟨J, _, _, rfl, rfl, sT2 _ _ eJ, smallL (by omega), ?_⟩
          refine ⟨_, _, _, _, _, _, _, ks ++ [.ref bl] ++ [.ref T2], Kl ++ [l] ++ [r], rfl, same_upd (s1.trans sT2) hJ, ?_, upd_same, ?_, ?_, inv.push (hB r (List.mem_cons_of_mem _ (List.mem_of_getElem? hg))) j⟩
          · rw [upd_ne nSJ.symm]; exact sT2 _ _ eS
          · exact paired_snoc (rns_upd (sT2 _ _ eJ) (rns_mono sT2 hJl)) ⟨T2, rfl, by rw [upd_ne nJ2]; exact upd_same⟩
          · rw [List.length_append]
            simp only [List.length_singleton]
            omega
      · rintro σ H' ⟨y3, y4, y5, y6, y7, y8, y9, us, Jl, rfl, s1, eS, eJ, hJl, lJ, inv⟩
        have inv' := inv
        rw [List.drop_of_length_le (by omega)] at inv'
        have okJ := inv'.ok
        have gJ := inv'.g
        rw [List.append_nil] at okJ gJ
        have njJ := inv'.nj
        have bJ := inv'.b
        clear inv inv'
        match Jl, us, hJl, okJ.ne with
        | h0 :: tl, _, .cons (a := xh) (l₁ := xt) ⟨bh, ebh, hbh⟩ hT, _ =>
          subst ebh
          refine ⟨_, rfl, J, _, _, _, rfl, rfl, SqL.of eJ, atI_nat (j := 0) rfl, bh, _, rfl, SqT.of hbh, rfl, _, _, rfl, _, _, rfl, _, _, rfl, rfl, ?_⟩
          refine ⟨_, rfl, _, rfl, _, _, rfl, rfl, _, rfl, _, _, rfl, rfl, rfl, _, rfl, ?_⟩
          have mh := bJ h0 (by simp)
          by_cases full : h0.2.1 - h0.1 = c - 1
          · refine iteY (congrArg V.int full) ?_
            obtain rfl := Pm.ok_full okJ full
            obtain ⟨cn, gn⟩ := Pm.can_full okJ full
            refine ⟨_, rfl, _, _, rfl, rfl, _, rfl, _, rfl, _, _, rfl, rfl, three, fun T hT => ⟨one, fun U hU => ?_⟩⟩
            refine q U _ [(0, c - 1, h0.2.2 - h0.1)] ((s1.trans (Same.new hT)).trans (Same.new hU)) ⟨_, upd_same, .cons ⟨T, rfl, Same.new hU _ _ upd_same⟩ .nil⟩ cn (fun z y => (gJ z y).trans (gn z y)) (by simp) fun r hr => ?_
            rw [List.mem_singleton.mp hr]; simp only; omega
          · refine iteN (fun e => full (V.int.inj e)) ?_
            obtain ⟨Kl, l, eK⟩ : ∃ Kl l, h0 :: tl = Kl ++ [l] := by
              rcases List.eq_nil_or_concat (h0 :: tl) with e | ⟨p, l, e⟩
              · cases e
              · exact ⟨p, l, by rw [e, List.concat_eq_append]⟩
            have hJl : Paired (RnAt H') (V.ref bh :: xt) (h0 :: tl) := .cons ⟨bh, rfl, hbh⟩ hT
            have hJ2 := hJl
            rw [eK] at hJ2
            obtain ⟨ks, xl, eks, hK, bl, rfl, hbl⟩ := paired_split hJ2
            have eJ2 := eJ
            rw [eks] at eJ2
            have ml : l ∈ h0 :: tl := by rw [eK]; simp
            have bl' := bJ l ml
            refine ⟨_, rfl, _, rfl, J, _, _, _, rfl, rfl, SqL.of eJ2, atI_last _ _, bl, _, rfl, SqT.of hbl, rfl, _, _, rfl, _, _, rfl, _, _, rfl, rfl, ?_⟩
            refine ⟨fun σ' H2 => ∃ L us' X X0, σ' = [some (.int c), some (.ref a), some (.ref L), some (.int h0.1), some (.int h0.2.1), some (.int h0.2.2), some (.int l.1), y7, some (.int l.2.2), some (.int l.2.1)] ∧ Same H H2 ∧ H2 L = some (.lst us') ∧ Paired (RnAt H2) us' X ∧ X.Perm X0 ∧ Pm.Ok c X0 ∧ Pm.NoJoin c X0 ∧
              (∀ z y, Pm.G c (r0 :: rest) z y ↔ Pm.G c X0 z y) ∧ X.length ≤ (r0 :: rest).length ∧ BR m X, ?_, ?_⟩
            · refine ⟨_, rfl, _, rfl, _, rfl, three, fun T hT => ⟨_, rfl, J, _, _, _, rfl, rfl, SqL.of (Same.new hT _ _ eJ), atI_nat (j := 0) rfl, _, rfl, bh, c, [h0.1, h0.2.1, h0.2.2], rfl, Same.new hT _ _ hbh, Nat.le_of_ble_eq_true rfl, fun e H1 s2 hn he => ⟨.ref T, .ref e, l, Pm.mv c h0, rfl, ⟨T, rfl, s2 _ _ upd_same⟩, ⟨e, rfl, he⟩, _, rfl, ?_⟩⟩⟩
              have sT := (Same.new hT (o := .tup [.int l.1, .int l.2.1, .int l.2.2])).trans s2
              by_cases j : Pm.Joins l (Pm.mv c h0)
              · refine iteY j ?_
                match Kl, ks, hK, eK, eks with
                | [], _, _, eK, _ =>
                  simp only [List.nil_append, List.cons.injEq] at eK
                  obtain ⟨rfl, _⟩ := eK
                  unfold Pm.Joins at j
                  simp only [Pm.mv1] at j
                  omega
                | k0 :: mid, _, .cons (a := xk) (l₁ := xm) rk hM, eK, eks =>
                  simp only [List.cons_append, List.cons.injEq] at eK
                  obtain ⟨rfl, rfl⟩ := eK
                  simp only [List.cons_append, List.cons.injEq] at eks
                  obtain ⟨rfl, rfl⟩ := eks
                  obtain ⟨o2, n2, g2⟩ := Pm.ok_wrap okJ njJ j
                  have lM := paired_len hM
                  refine ⟨_, rfl, _, rfl, _, rfl, _, _, rfl, rfl, _, rfl, three, fun T2 hT2 => ?_⟩
                  have sT2 := sT.trans (Same.new hT2 (o := .tup [.int l.1, .int (h0.2.1 + c), .int l.2.2]))
                  refine ⟨_, rfl, _, rfl, _, rfl, _, rfl, J, _, rfl, SqL.of (sT2 _ _ eJ), fun L hL => ?_⟩
                  have ec : cutV (V.ref bh :: (xm ++ [V.ref bl])) (some 1) (some (-1)) = xm := by
                    have := cut_from (V.ref bh :: xm) (V.ref bl) 1 (by rw [List.length_cons]; omega)
                    simpa using this
                  rw [ec]
                  refine ⟨L, xm, rfl, .inr (SqL.of upd_same), ?_⟩
                  have lxm : xm.length ≤ 60000 := by
                    have := lJ
                    simp only [List.length_cons, List.length_append] at this hl
                    omega
                  refine ⟨?_, fun M hM2 => ?_⟩
                  · rw [List.append_nil, List.length_cons]
                    have := smallL (n := xm.length + 1) (by omega)
                    omega
                  rw [List.append_nil]
                  have sL := (sT2.trans (Same.new hL (o := .lst xm))).trans (Same.new hM2 (o := .lst (.ref T2 :: xm)))
                  refine ⟨M, .ref T2 :: xm, (l.1, h0.2.1 + c, l.2.2) :: mid, mid ++ [(l.1, h0.2.1 + c, l.2.2)], rfl, s1.trans sL, upd_same, .cons ⟨T2, rfl, Same.new hM2 _ _ (Same.new hL _ _ upd_same)⟩ (rns_mono sL hM), ?_, o2, n2, fun z y => (gJ z y).trans (g2 z y), ?_, ?_⟩
                  · exact (List.perm_append_singleton _ _).symm
                  · simp only [List.length_cons, List.length_append, List.length_nil] at lJ ⊢; omega
                  · intro r hr
                    rcases List.mem_cons.mp hr with rfl | hr
                    · exact ⟨bl'.1, bl'.2.1, bl'.2.2.1, bl'.2.2.2⟩
                    · exact bJ r (by simp [hr])
              · refine iteN j ?_
                have hlast : (h0 :: tl).getLast? = some l := by rw [eK, List.getLast?_concat]
                exact ⟨J, _, h0 :: tl, h0 :: tl, rfl, s1.trans sT, sT _ _ eJ, rns_mono sT hJl, List.Perm.refl _, okJ, Pm.nojoin_plain okJ njJ hlast j, gJ, by rw [List.length_cons (as := rest)]; omega, bJ⟩
            · rintro σ' H2 ⟨L, us', X, X0, rfl, s2, eL, hX, pX, ok0, nj0, g0, lX, bX⟩
              refine ⟨_, rfl, _, rfl, c, L, us', X.map row3, 3, rfl, eL, row_rn hX, c1, c30, by decide, by decide, ?_, fun ns hns => ?_, fun p ys zs H3 s3 _ hp hY pm pw => ?_⟩
              · rw [List.length_map]; omega
              · obtain ⟨r, hr, rfl⟩ := List.mem_map.mp hns
                have := bX r hr
                have : (10 : Int) ^ 200 ≤ 10 ^ 300 := by decide +kernel
                exact ⟨rfl, by show Fit r.1; unfold Fit; omega⟩
              · obtain ⟨Z, rfl, pZ, sZ⟩ := rows_back pm pw
                have pZ0 := pZ.trans (pX.map (Pm.home c))
                obtain ⟨cn, gn⟩ := Pm.can_sorted ok0 nj0 pZ0 sZ
                refine ⟨p, ys, rfl, .inl ⟨SqL.of hp, fun u hu => ?_⟩⟩
                refine q u _ Z ((s2.trans s3).trans (Same.new hu)) ⟨ys, upd_same, rns_mono (Same.new hu) (rn_row hY)⟩ cn (fun z y => (g0 z y).trans (gn z y)) ?_ (ba_home c1 bX pZ)
                rw [pZ.length_eq, List.length_map]; exact lX
end
end Gr

set_option Elab.async false
set_option linter.all false
set_option pp.deepTerms false
set_option pp.maxSteps 3000
set_option maxRecDepth 100000
set_option maxHeartbeats 4000000
set_option exponentiation.threshold 3000
namespace Gr
open PySem PySem.Spec PyProof.Rows L2
open Pm (Rn)
def spPlace : Sp := fun vs H Q _ => ∃ (c x : Int) (a : Addr) (rs : List Rn), vs = [.int c, .ref a, .int x] ∧ RnsT H a rs ∧ Pm.Ok c rs ∧ c ≤ 10 ^ 30 ∧ rs.length ≤ 60000 ∧ (∀ r ∈ rs, Fit (r.2.1 - x)) ∧
  ∀ t H' pre r post k, Same H H' → rs = pre ++ r :: post → H' t = some (.tup [.int (pre.length : Int), .int (k * c)]) → (∀ a ∈ pre, a.2.1 + k * c < x) → x ≤ r.2.1 + k * c → (∀ a ∈ rs, a.2.1 + k * c - c < x) → Q (.ref t) H'
def spArrW : Sp := fun vs H Q _ => ∃ (y : V) (x : Int) (r : Rn), vs = [y, .int x] ∧ RnAt H y r ∧ Q (.int (Pm.stepF r x)) H
def spArrAt : Sp := fun vs H Q _ => ∃ (c x : Int) (a : Addr) (rs : List Rn), vs = [.int c, .ref a, .int x] ∧ RnsT H a rs ∧ Pm.Ok c rs ∧ c ≤ 10 ^ 30 ∧ rs.length ≤ 60000 ∧ (∀ r ∈ rs, Fit (r.2.1 - x)) ∧ ∀ H', Same H H' → Q (.int (Pm.F c rs x)) H'
theorem ok_mono {c : Int} {rs : List Rn} (ok : Pm.Ok c rs) {i j : Nat} {a b : Rn} (hi : rs[i]? = some a) (hj : rs[j]? = some b) (h : i < j) : a.2.1 < b.2.1 := by
  obtain ⟨h1, e1⟩ := List.getElem?_eq_some_iff.mp hi
  obtain ⟨h2, e2⟩ := List.getElem?_eq_some_iff.mp hj
  have g := List.pairwise_iff_getElem.mp ok.pw i j h1 h2 h
  rw [e1, e2] at g
  have := ok.fl b (List.mem_of_getElem? hj)
  unfold Pm.GoesOn at g; omega
theorem split_at {α : Type} {l : List α} {i : Nat} {x : α} (h : l[i]? = some x) : l = l.take i ++ x :: l.drop (i + 1) ∧ (l.take i).length = i := by
  obtain ⟨h1, e⟩ := List.getElem?_eq_some_iff.mp h
  refine ⟨?_, by rw [List.length_take]; omega⟩
  rw [← e, ← List.drop_eq_getElem_cons h1, List.take_append_drop]
section
variable {P : Program} {w : World} {K : PySem.W.Frag} {mg : Str → Option Value} {base : Heap} {tC : Tok}
theorem ok_arrW {f : Addr} {fd : FuncData} (B : Blt mg tC) (Darrival_by_run : Def K mg "arrival_by_run" s_arrival_by_run ["run", "start"] f fd) : FnOk P w K mg base CX0 1 f fd ["run", "start"] spArrW := by
  refine Darrival_by_run.F.ok scarrival_by_run (fun vs H Q E h => ?_) (fun cdv A outer s H vs Q E hr h => ⟨_, (pss_cons (ps_asg (pv 0) (pg_tup rfl (pgs_cons (pg_name (i := 2) scarrival_by_run.nd rfl (Or.inl rfl)) (pgs_cons (pg_name (i := 3) scarrival_by_run.nd rfl (Or.inl rfl)) (pgs_cons (pg_name (i := 4) scarrival_by_run.nd rfl (Or.inl rfl)) pgs_nil)))))
  (pss_one (ps_ret (pe_op op_add (pv 4) (pe_callB (call_max2 rfl) (by rfl) B.n_max (by decide +kernel) (pa_cons pe_int (pa_cons (pe_op op_sub (pv 1) (pv 2)) pa_nil))))))), ?_⟩)
  · obtain ⟨y, x, r, rfl, _⟩ := h; rfl
  · obtain ⟨y, x, r, rfl, ⟨b, rfl, hb⟩, q⟩ := h
    refine ⟨_, rfl, b, _, rfl, SqT.of hb, rfl, _, _, rfl, _, _, rfl, _, _, rfl, rfl, ?_⟩
    refine ⟨_, rfl, _, rfl, _, rfl, _, _, rfl, rfl, _, _, rfl, ?_⟩
    exact ⟨_, _, rfl, rfl, q⟩
theorem ok_place {f : Addr} {fd : FuncData} (B : Blt mg tC) (Dplace_of : Def K mg "place_of" s_place_of ["cycle", "runs", "start"] f fd) : FnOk P w K mg base CX0 1 f fd ["cycle", "runs", "start"] spPlace := by
  refine Dplace_of.F.ok scplace_of (fun vs H Q E h => ?_) (fun cdv A outer s H vs Q E hr h => ⟨_, (pss_cons (ps_set (i := 3) scplace_of.nd rfl (Or.inl rfl) (pe_un un_neg (pe_op op_mulW (pe_op op_fdivW (pe_op op_sub (pe_ix ix_tup (pe_ix ix_tup (pv 1) (pe_un un_neg pe_int) (fun _ _ => rfl)) pe_int (fun _ _ => rfl)) (pv 2)) (pv 0)) (pv 0))))
  (pss_cons (ps_par (i := 4) (j := 5) rfl scplace_of.nd rfl rfl (by decide) rfl rfl (pa_cons pe_int (pa_cons (pe_op op_sub (pe_callB call_len_seq (by rfl) B.len PySem.boot_len (pa_cons (pv 1) pa_nil)) pe_int) pa_nil)) (by rfl))
  (pss_cons (ps_while PassesOwn.never (pt_cmpR op_lt (pv 4) (pv 5) (nomark _))
   (pss_cons (ps_set (i := 6) scplace_of.nd rfl (Or.inl rfl) (pe_op op_fdivW (pe_op op_add (pv 4) (pv 5)) pe_int))
  (pss_one (ps_if (pt_cmpR op_lt (pe_op op_add (pe_ix ix_tup (pe_ix ix_tup (pv 1) (pv 6) (fun _ _ => rfl)) pe_int (fun _ _ => rfl)) (pv 3)) (pv 2) (nomark _))
   (pss_one (ps_set (i := 4) scplace_of.nd rfl (Or.inl rfl) (pe_op op_add (pv 6) pe_int)))
   (pss_one (ps_set (i := 5) scplace_of.nd rfl (Or.inl rfl) (pv 6)))))))
  (pss_one (ps_ret (pe_tup (pa_cons (pv 4) (pa_cons (pv 3) pa_nil)))))))), ?_⟩)
  · obtain ⟨c, x, a, rs, rfl, _⟩ := h; rfl
  · obtain ⟨c, x, a, rs, rfl, ⟨xs, ha, hP⟩, ok, c30, hl, hf, q⟩ := h
    have c1 := ok.c1
    have lx := paired_len hP
    obtain ⟨pre, l, rfl⟩ : ∃ pre l, rs = pre ++ [l] := by
      rcases List.eq_nil_or_concat rs with e | ⟨pre, l, e⟩
      · exact absurd e ok.ne
      · exact ⟨pre, l, by rw [e, List.concat_eq_append]⟩
    obtain ⟨xp, xl, rfl, hPp, b, rfl, hb⟩ := paired_split hP
    have lp := paired_len hPp
    have ml : l ∈ pre ++ [l] := by simp
    refine ⟨_, rfl, _, rfl, a, _, _, _, rfl, rfl, SqT.of ha, atI_last _ _, b, _, _, _, rfl, rfl, SqT.of hb, atI_nat (j := 1) rfl, _, rfl, _, _, rfl, rfl, _, rfl, _, _, rfl, rfl, divF c1 c30, _, rfl, _, _, rfl, rfl, mulF (hf l ml) c1 c30, _, rfl, ?_⟩
    have tr := Pm.turn_rng c l.2.1 x c1
    have mx := ok.lastMax
    have ek : -((l.2.1 - x) / c * c) = -((l.2.1 - x) / c) * c := by rw [Int.neg_mul]
    generalize -((l.2.1 - x) / c) = k at tr ek
    refine ⟨_, rfl, a, _, rfl, .inr (SqT.of ha), _, _, rfl, rfl, _, _, rfl, ?_⟩
    have e5 : ((xp ++ [V.ref b]).length : Int) - 1 = ((pre.length : Nat) : Int) := by rw [List.length_append, lp]; simp
    refine ⟨fun m σ H' => ∃ (lo hi : Nat) (y6 : Option V), m = hi - lo ∧ σ = [some (.int c), some (.ref a), some (.int x), some (.int (k * c)), some (.int (lo : Int)), some (.int (hi : Int)), y6] ∧ H' = H ∧ lo ≤ hi ∧ hi < (pre ++ [l]).length ∧ (∀ j r, j < lo → (pre ++ [l])[j]? = some r → r.2.1 + k * c < x) ∧ (∀ r, (pre ++ [l])[hi]? = some r → x ≤ r.2.1 + k * c),
      ⟨_, 0, pre.length, none, rfl, by rw [← ek, ← e5]; rfl, rfl, Nat.zero_le _, by rw [List.length_append]; exact Nat.lt_succ_self _, fun j r h => by omega, fun r h => ?_⟩, ?_⟩
    · rw [List.getElem?_append_right (Nat.le_refl _), Nat.sub_self] at h
      cases h
      exact tr.2
    rintro m σ H' ⟨lo, hi, y6, rfl, rfl, rfl, h1, h2, hlo, hhi⟩
    refine ⟨_, rfl, _, rfl, _, _, rfl, rfl, ?_⟩
    by_cases z : lo < hi
    · refine ⟨true, congrArg V.bl (decide_eq_true (by omega)), ?_⟩
      refine ⟨fun σ' H2 => ∃ m', m' < hi - lo ∧ ∃ (lo hi : Nat) (y6 : Option V), m' = hi - lo ∧ σ' = [some (.int c), some (.ref a), some (.int x), some (.int (k * c)), some (.int (lo : Int)), some (.int (hi : Int)), y6] ∧ H2 = H' ∧ lo ≤ hi ∧ hi < (pre ++ [l]).length ∧ (∀ j r, j < lo → (pre ++ [l])[j]? = some r → r.2.1 + k * c < x) ∧ (∀ r, (pre ++ [l])[hi]? = some r → x ≤ r.2.1 + k * c), fun _ _ n => n, ?_⟩
      refine ⟨_, rfl, _, rfl, _, _, rfl, rfl, _, _, rfl, rfl, ⟨by decide, by decide +kernel⟩, ?_⟩
      have em : ((lo : Int) + (hi : Int)) / 2 = (((lo + hi) / 2 : Nat) : Int) := by omega
      have hm1 : lo ≤ (lo + hi) / 2 := by omega
      have hm2 : (lo + hi) / 2 < hi := by omega
      generalize (lo + hi) / 2 = md at em hm1 hm2
      obtain ⟨rm, hrm⟩ : ∃ rm, (pre ++ [l])[md]? = some rm := ⟨_, List.getElem?_eq_getElem (by omega)⟩
      obtain ⟨xm, hxm⟩ : ∃ xm, (xp ++ [V.ref b])[md]? = some xm := ⟨_, List.getElem?_eq_getElem (by omega)⟩
      obtain ⟨rm', hrm', bm, rfl, hbm⟩ := paired_at hP hxm
      rw [hrm] at hrm'
      cases hrm'
      have hat : atI (xp ++ [V.ref b]) (((lo : Int) + (hi : Int)) / 2) = some (V.ref bm) := by rw [em]; exact atI_nat hxm
      refine ⟨_, rfl, _, rfl, a, _, _, _, rfl, rfl, SqT.of ha, hat, bm, _, _, _, rfl, rfl, SqT.of hbm, atI_nat (j := 1) rfl, _, rfl, _, _, rfl, rfl, _, rfl, _, _, rfl, rfl, _, rfl, ?_⟩
      by_cases y : rm.2.1 + k * c < x
      · refine iteY y ?_
        refine ⟨_, rfl, _, _, rfl, rfl, hi - (md + 1), by omega, md + 1, hi, some (.int (((lo : Int) + (hi : Int)) / 2)), rfl, ?_, rfl, by omega, h2, fun j r hj hr => ?_, hhi⟩
        · show [some (V.int c), some (V.ref a), some (V.int x), some (V.int (k * c)), some (V.int (((lo : Int) + (hi : Int)) / 2 + 1)), some (V.int hi), some (V.int (((lo : Int) + (hi : Int)) / 2))] = _
          rw [em]; rfl
        · by_cases e : j = md
          · subst e; rw [hrm] at hr; cases hr; exact y
          · have := ok_mono ok hr hrm (by omega)
            omega
      · refine iteN y ?_
        refine ⟨_, rfl, md - lo, by omega, lo, md, some (.int (((lo : Int) + (hi : Int)) / 2)), rfl, ?_, rfl, hm1, by omega, hlo, fun r hr => ?_⟩
        · show [some (V.int c), some (V.ref a), some (V.int x), some (V.int (k * c)), some (V.int lo), some (V.int (((lo : Int) + (hi : Int)) / 2)), some (V.int (((lo : Int) + (hi : Int)) / 2))] = _
          rw [em]
        · rw [hrm] at hr; cases hr; omega
    · refine ⟨false, congrArg V.bl (decide_eq_false (by omega)), ?_⟩
      have e0 : lo = hi := by omega
      subst e0
      obtain ⟨r, hr⟩ : ∃ r, (pre ++ [l])[lo]? = some r := ⟨_, List.getElem?_eq_getElem h2⟩
      obtain ⟨sp, sl⟩ := split_at hr
      refine ⟨_, rfl, _, rfl, (by show 2 ≤ sizeLine; decide), fun t ht => ?_⟩
      refine q t _ ((pre ++ [l]).take lo) r ((pre ++ [l]).drop (lo + 1)) k (Same.new ht) sp (by rw [upd_same, sl]) (fun r' hr' => ?_) (hhi r hr) fun r' hr' => ?_
      · obtain ⟨j, hj⟩ := List.mem_iff_getElem?.mp hr'
        have lj := (List.getElem?_eq_some_iff.mp hj).1
        rw [List.length_take] at lj
        rw [List.getElem?_take_of_lt (by omega)] at hj
        exact hlo j r' (by omega) hj
      · have := mx r' hr'
        omega
theorem ok_arrAt {f f1 f2 f3 : Addr} {fd fd1 fd2 fd3 : FuncData} (B : Blt mg tC) (Darrival_at : Def K mg "arrival_at" s_arrival_at ["cycle", "runs", "start"] f fd) (Dplace_of : Def K mg "place_of" s_place_of ["cycle", "runs", "start"] f1 fd1) (Darrival_by_run : Def K mg "arrival_by_run" s_arrival_by_run ["run", "start"] f2 fd2) (Dmoved : Def K mg "moved" s_moved ["run", "ticks"] f3 fd3) : FnOk P w K mg base CX0 2 f fd ["cycle", "runs", "start"] spArrAt := by
  have Gplace_of := ok_place (P := P) (w := w) (base := base) B Dplace_of
  have Garrival_by_run := ok_arrW (P := P) (w := w) (base := base) B Darrival_by_run
  have Gmoved := ok_moved (P := P) (w := w) (base := base) B Dmoved
  refine Darrival_at.F.ok scarrival_at (fun vs H Q E h => ?_) (fun cdv A outer s H vs Q E hr h => ⟨_, (pss_cons (ps_asg (pe_call Gplace_of (hr.mono (by decide)) (by rfl) Dplace_of.g Dplace_of.F.kp Dplace_of.b .nil pass0 (pa_cons (pv 0) (pa_cons (pv 1) (pa_cons (pv 2) pa_nil)))) (pg_tup rfl (pgs_cons (pg_name (i := 3) scarrival_at.nd rfl (Or.inl rfl)) (pgs_cons (pg_name (i := 4) scarrival_at.nd rfl (Or.inl rfl)) pgs_nil))))
  (pss_one (ps_ret (pe_call Garrival_by_run (hr.mono (by decide)) (by rfl) Darrival_by_run.g Darrival_by_run.F.kp Darrival_by_run.b .nil pass0 (pa_cons (pe_call Gmoved (hr.mono (by decide)) (by rfl) Dmoved.g Dmoved.F.kp Dmoved.b .nil pass0 (pa_cons (pe_ix ix_tup (pv 1) (pv 3) (fun _ _ => rfl)) (pa_cons (pv 4) pa_nil))) (pa_cons (pv 2) pa_nil)))))), ?_⟩)
  · obtain ⟨c, x, a, rs, rfl, _⟩ := h; rfl
  · obtain ⟨c, x, a, rs, rfl, hS, ok, c30, hl, hf, q⟩ := h
    refine ⟨_, rfl, _, rfl, _, rfl, c, x, a, rs, rfl, hS, ok, c30, hl, hf, fun t H' pre r post k s1 e ht h1 h2 h3 => ?_⟩
    obtain ⟨xs, ha, hP⟩ := hS.mono s1
    refine ⟨t, _, rfl, SqT.of ht, rfl, _, _, rfl, _, _, rfl, rfl, ?_⟩
    have hr0 : rs[pre.length]? = some r := by rw [e, List.getElem?_append_right (Nat.le_refl _), Nat.sub_self]; rfl
    obtain ⟨xm, hxm⟩ : ∃ xm, xs[pre.length]? = some xm := ⟨_, List.getElem?_eq_getElem (by have := (List.getElem?_eq_some_iff.mp hr0).1; have := paired_len hP; omega)⟩
    obtain ⟨r', hr', b, rfl, hb⟩ := paired_at hP hxm
    rw [hr0] at hr'
    cases hr'
    refine ⟨_, rfl, _, rfl, a, _, _, _, rfl, rfl, SqT.of ha, atI_nat hxm, _, rfl, b, k * c, [r.1, r.2.1, r.2.2], rfl, hb, Nat.le_of_ble_eq_true rfl, fun e2 H2 s2 hn he => ?_⟩
    refine ⟨_, rfl, .ref e2, x, Pm.mv (k * c) r, rfl, ⟨e2, rfl, he⟩, ?_⟩
    have := q H2 (s1.trans s2)
    subst e
    rw [ok.F_at h1 h2 h3] at this
    exact this
end
end Gr

set_option Elab.async false
set_option linter.all false
set_option pp.deepTerms false
set_option pp.maxSteps 3000
set_option maxRecDepth 100000
set_option maxHeartbeats 4000000
set_option exponentiation.threshold 3000
namespace Gr
open PySem PySem.Spec PyProof.Rows L2
open Pm (Rn)
/-! ### the class Passage -/
structure TxtP (K : PySem.W.Frag) (mg : Str → Option Value) (C fI fC : Addr) : Prop where
  cl : Cls K C
  nC : NoAttr K C "cycle"
  nR : NoAttr K C "runs"
  mgC : mg "Passage" = some (.ref C)
  mks : Mk K C fI
  co : StX.CallO K C fC
theorem kcr : ¬ (("cycle" : Str) = "runs") := by decide +kernel
def fldP (c : Int) (a : Addr) : List (Str × V) := putF "runs" (.ref a) (putF "cycle" (.int c) [])
theorem fldP_cycle (c : Int) (a : Addr) : (fldP c a).lookup ("cycle" : Str) = some (.int c) := by
  unfold fldP; rw [lookup_putF, if_neg kcr, lookup_putF, if_pos rfl]
theorem fldP_runs (c : Int) (a : Addr) : (fldP c a).lookup ("runs" : Str) = some (.ref a) := by
  unfold fldP; rw [lookup_putF, if_pos rfl]
/-- a passage at p: its cycle, its runs in the one form; M: how far its arrivals may be -/
structure PasAt (C : Addr) (H : Hp) (p : Addr) (c M : Int) (Z : List Rn) : Prop where
  ob : ∃ dx a, H p = some (.ins C dx (fldP c a)) ∧ RnsT H a Z
  can : Pm.Can c Z
  le : c ≤ 10 ^ 30
  len : Z.length ≤ 60000
  ba : BA M Z
theorem PasAt.mono {C : Addr} {H H' : Hp} {p : Addr} {c M : Int} {Z : List Rn} (s : Same H H') (h : PasAt C H p c M Z) : PasAt C H' p c M Z := by
  obtain ⟨dx, a, h1, h2⟩ := h.ob
  exact ⟨⟨dx, a, s _ _ h1, h2.mono s⟩, h.can, h.le, h.len, h.ba⟩
theorem can_rng {c : Int} {Z : List Rn} (h : Pm.Can c Z) : ∀ r ∈ Z, 0 ≤ r.1 ∧ r.1 < c ∧ r.1 ≤ r.2.1 ∧ r.2.1 < r.1 + c := fun r hr => by
  have fl := h.1.fl r hr
  have rl := h.1.rng_last hr
  have c1 := h.1.c1
  rcases h.2 with ⟨y, rfl⟩ | ⟨g, _⟩
  · rw [List.mem_singleton.mp hr] at fl rl ⊢; simp only at *; omega
  · have := g r hr; omega
def spInitP (C : Addr) : Sp := fun vs H Q _ => ∃ (p dx a : Addr) (c m : Int) (rs : List Rn), vs = [.ref p, .int c, .ref a] ∧ H p = some (.ins C dx []) ∧ RnsT H a rs ∧ Pm.Ok c rs ∧ c ≤ 10 ^ 30 ∧ rs.length ≤ 50000 ∧ BR m rs ∧ m ≤ 10 ^ 200 ∧
  ∀ H' Z, (∀ b o, H b = some o → b ≠ p → H' b = some o) → PasAt C H' p c (2 * m + c) Z → (∀ z y, Pm.G c rs z y ↔ Pm.G c Z z y) → Z.length ≤ rs.length → Q .non H'
def spCallP (C : Addr) : Sp := fun vs H Q _ => ∃ (p : Addr) (c x M : Int) (Z : List Rn), vs = [.ref p, .int x] ∧ PasAt C H p c M Z ∧ -(10 ^ 250) ≤ x ∧ x ≤ 10 ^ 250 ∧ ∀ H', Same H H' → Q (.int (Pm.F c Z x)) H'
def spTravel (C : Addr) : Sp := fun vs H Q _ => ∃ (c t m : Int), vs = [.int c, .int t] ∧ 1 ≤ c ∧ c ≤ 10 ^ 30 ∧ c ≤ m ∧ -m ≤ t ∧ t ≤ m ∧ m ≤ 10 ^ 200 ∧ ∀ p H' Z, Same H H' → PasAt C H' p c (2 * m + c) Z → (∀ z y, Pm.G c [(0, c - 1, t)] z y ↔ Pm.G c Z z y) → Q (.ref p) H'
def spNumber : Sp := fun vs H Q _ => ∃ c : Int, vs = [.int c] ∧ Q .non H
theorem ok_one {c t : Int} (c1 : 1 ≤ c) : Pm.Ok c [(0, c - 1, t)] :=
  ⟨c1, by simp, fun r hr => by rw [List.mem_singleton.mp hr]; simp only; omega, List.pairwise_singleton _ _, fun r hr s hs => by
    rw [List.mem_singleton.mp hr, List.mem_singleton.mp hs]; unfold Pm.GoesOn Pm.la; simp only [Pm.mv1, Pm.mv2, Pm.mv3]; omega⟩
theorem same_make {C : Addr} {H : Hp} {x dx : Addr} (hx : H x = none) (hdx : H dx = none) : Same H (upd (upd H dx (.own x)) x (.ins C dx [])) := fun b o e => by
  rw [upd_ne (ne_of_none e hx), upd_ne (ne_of_none e hdx)]; exact e
/-- what stood ahead of the making stands behind it -/
theorem made {H H2 H3 H' : Hp} {x : Addr} (hx : H2 x = none) (s : Same H H3) (s2 : Same H H2) (kp : ∀ b o, H3 b = some o → b ≠ x → H' b = some o) : Same H H' := fun b o e => kp b o (s b o e) (ne_of_none (s2 b o e) hx)
section
variable {P : Program} {w : World} {K : PySem.W.Frag} {mg : Str → Option Value} {base : Heap} {tC : Tok}
theorem ok_initP {C fI fC f1 f2 f3 f4 f5 f6 f7 f8 f9 f10 : Addr} {fdI fd1 fd2 fd3 fd4 fd5 fd6 fd7 fd8 fd9 fd10 : FuncData} (B : Blt mg tC) (TP : TxtP K mg C fI fC) (DP_init : DefM K "__init__" "Passage.__init__" s_P_init ["self", "cycle", "runs"] fI fdI) (Dcheck_cycle : Def K mg "check_cycle" s_check_cycle ["cycle"] f1 fd1) (Dis_whole : Def K mg "is_whole" s_is_whole ["value"] f2 fd2) (Dare_runs : Def K mg "are_runs" s_are_runs ["cycle", "value"] f3 fd3) (Dis_run : Def K mg "is_run" s_is_run ["value"] f4 fd4) (Dgoes_on : Def K mg "goes_on" s_goes_on ["before", "run"] f5 fd5) (Dlast_arrival : Def K mg "last_arrival" s_last_arrival ["run"] f6 fd6) (Drun_pairs : Def K mg "run_pairs" s_run_pairs ["cycle", "runs"] f7 fd7) (Dmoved : Def K mg "moved" s_moved ["run", "ticks"] f8 fd8) (Dlongest_runs : Def K mg "longest_runs" s_longest_runs ["cycle", "runs"] f9 fd9) (Djoins : Def K mg "joins" s_joins ["before", "run"] f10 fd10) {f11 : Addr} {fd11 : FuncData} (Dascending : Def K mg "ascending" s_ascending ["cycle", "rows"] f11 fd11) : FnOk P w K mg base CX0 4 fI fdI ["self", "cycle", "runs"] (spInitP C) := by
  have Gcheck_cycle := ok_check_cycle (P := P) (w := w) (base := base) B Dcheck_cycle Dis_whole
  have Gare_runs := ok_are (P := P) (w := w) (base := base) B Dare_runs Dis_run Dis_whole Dgoes_on Dlast_arrival Drun_pairs Dmoved
  have Glongest_runs := ok_longest (P := P) (w := w) (base := base) B Dlongest_runs Djoins Dlast_arrival Dmoved Dascending
  refine DP_init.F.ok scP_init (fun vs H Q E h => ?_) (fun cdv A outer s H vs Q E hr h => ⟨_, (pss_cons (ps_expr (pe_call Gcheck_cycle (hr.mono (by decide)) (by rfl) Dcheck_cycle.g Dcheck_cycle.F.kp Dcheck_cycle.b .nil pass0 (pa_cons (pv 1) pa_nil)))
  (pss_cons (ps_if (pt_not (pt_val (pe_call Gare_runs (hr.mono (by decide)) (by rfl) Dare_runs.g Dare_runs.F.kp Dare_runs.b .nil pass0 (pa_cons (pv 1) (pa_cons (pv 2) pa_nil)))))
   (pss_one ps_never)
   pss_nil)
  (pss_cons (ps_fld (pv 0) (pv 1) rfl)
  (pss_one (ps_fld (pv 0) (pe_call Glongest_runs (hr.mono (by decide)) (by rfl) Dlongest_runs.g Dlongest_runs.F.kp Dlongest_runs.b .nil pass0 (pa_cons (pv 1) (pa_cons (pv 2) pa_nil))) rfl))))), ?_⟩)
  · obtain ⟨p, dx, a, c, m, rs, rfl, _⟩ := h; rfl
  · obtain ⟨p, dx, a, c, m, rs, rfl, hp, hS, ok, c30, hl, hB, hm, q⟩ := h
    refine ⟨_, rfl, c, rfl, ok.c1, c30, ?_⟩
    refine ⟨_, rfl, _, rfl, c, a, rs, rfl, hS, ok, hl, fun H1 s1 => ⟨_, rfl, iteF ?_⟩⟩
    have hp1 := s1 _ _ hp
    refine ⟨_, rfl, _, rfl, p, C, dx, [], rfl, hp1, TP.cl, TP.nC, (by show 0 < 1000; decide), ?_⟩
    have hS1 := hS.mono s1
    have sU : ∀ b o, H1 b = some o → b ≠ p → (upd H1 p (.ins C dx (putF "cycle" (.int c) []))) b = some o := fun b o e h => by rw [upd_ne h]; exact e
    have hS2 : RnsT (upd H1 p (.ins C dx (putF "cycle" (.int c) []))) a rs := by
      obtain ⟨xs, h1, h2⟩ := hS1
      exact ⟨xs, sU _ _ h1 (ne_of h1 hp1 (fun z => nomatch z)), L2.Paired.mapP h2 fun _ _ ⟨b, e, h⟩ => ⟨b, e, sU _ _ h (ne_of h hp1 (fun z => nomatch z))⟩⟩
    refine ⟨_, rfl, _, rfl, c, m, a, rs, rfl, hS2, ok, c30, hl, hB, hm, fun u H2 Z s2 hZ can g lz ba => ?_⟩
    refine ⟨_, rfl, p, C, dx, _, rfl, s2 _ _ upd_same, TP.cl, TP.nR, (by show 1 < 1000; decide), ?_⟩
    have hp2 := s2 _ _ (upd_same (H := H1) (a := p) (o := .ins C dx (putF "cycle" (.int c) [])))
    refine q _ Z (fun b o e hb => ?_) ⟨⟨dx, u, upd_same, ?_⟩, can, c30, by omega, ba⟩ g lz
    · rw [upd_ne hb]; exact s2 _ _ (sU _ _ (s1 _ _ e) hb)
    · obtain ⟨xs, h1, h2⟩ := hZ
      exact ⟨xs, by rw [upd_ne (ne_of h1 hp2 (fun z => nomatch z))]; exact h1, L2.Paired.mapP h2 fun _ _ ⟨b, e, h⟩ => ⟨b, e, by rw [upd_ne (ne_of h hp2 (fun z => nomatch z))]; exact h⟩⟩
theorem ok_callP {C fI fC f1 f2 f3 f4 f5 f6 : Addr} {fdC fd1 fd2 fd3 fd4 fd5 fd6 : FuncData} (B : Blt mg tC) (TP : TxtP K mg C fI fC) (DP_call : DefM K "__call__" "Passage.__call__" s_P_call ["self", "start"] fC fdC) (Dcheck_moment : Def K mg "check_moment" s_check_moment ["moment"] f1 fd1) (Dis_whole : Def K mg "is_whole" s_is_whole ["value"] f2 fd2) (Darrival_at : Def K mg "arrival_at" s_arrival_at ["cycle", "runs", "start"] f3 fd3) (Dplace_of : Def K mg "place_of" s_place_of ["cycle", "runs", "start"] f4 fd4) (Darrival_by_run : Def K mg "arrival_by_run" s_arrival_by_run ["run", "start"] f5 fd5) (Dmoved : Def K mg "moved" s_moved ["run", "ticks"] f6 fd6) : FnOk P w K mg base CX0 3 fC fdC ["self", "start"] (spCallP C) := by
  have Gcheck_moment := ok_check_moment (P := P) (w := w) (base := base) B Dcheck_moment Dis_whole
  have Garrival_at := ok_arrAt (P := P) (w := w) (base := base) B Darrival_at Dplace_of Darrival_by_run Dmoved
  refine DP_call.F.ok scP_call (fun vs H Q E h => ?_) (fun cdv A outer s H vs Q E hr h => ⟨_, (pss_cons (ps_expr (pe_call Gcheck_moment (hr.mono (by decide)) (by rfl) Dcheck_moment.g Dcheck_moment.F.kp Dcheck_moment.b .nil pass0 (pa_cons (pv 1) pa_nil)))
  (pss_one (ps_ret (pe_call Garrival_at (hr.mono (by decide)) (by rfl) Darrival_at.g Darrival_at.F.kp Darrival_at.b .nil pass0 (pa_cons (pe_fld (pv 0) rfl) (pa_cons (pe_fld (pv 0) rfl) (pa_cons (pv 1) pa_nil))))))), ?_⟩)
  · obtain ⟨p, c, x, M, Z, rfl, _⟩ := h; rfl
  · obtain ⟨p, c, x, M, Z, rfl, hP, x0, x1, q⟩ := h
    obtain ⟨dx, a, hp, hS⟩ := hP.ob
    refine ⟨_, rfl, x, rfl, ?_⟩
    refine ⟨_, rfl, p, C, dx, _, _, rfl, hp, TP.cl, TP.nC, fldP_cycle _ _, _, rfl, p, C, dx, _, _, rfl, hp, TP.cl, TP.nR, fldP_runs _ _, _, rfl, c, x, a, Z, rfl, hS, hP.can.1, hP.le, hP.len, fun r hr => ?_, q⟩
    have := can_rng hP.can r hr
    have h30 := hP.le
    have e1 : (10 : Int) ^ 30 ≤ 10 ^ 250 := by decide +kernel
    have e2 : 3 * (10 : Int) ^ 250 ≤ 10 ^ 300 := by decide +kernel
    unfold Fit; omega
/-- the promise of a call by its positional values -/
theorem raw_callP {C fC : Addr} {fdC : FuncData} {k : Nat} {ps : List Str} {sp : Sp} (F : FnOk P w K mg base CX0 k fC fdC ps sp) (hb : Binds K fdC ps []) : FnR P w K mg base CX0 k fC sp :=
  (F.raw hb .nil).imp fun vs H Q E h => by rw [List.append_nil]; exact h
end
end Gr

set_option Elab.async false
set_option linter.all false
set_option pp.deepTerms false
set_option pp.maxSteps 3000
set_option maxRecDepth 100000
set_option maxHeartbeats 4000000
set_option exponentiation.threshold 3000
namespace Gr
open PySem PySem.Spec PyProof.Rows L2
open Pm (Rn)
/-! ### the passage of a signal -/
def rowG (g : Int × Int) : Rn := (g.1, g.1 + g.2 - 1, g.1)
theorem ok_rowsG {c : Int} {f : Int → Bool} {A : List (Int × Int)} (c1 : 1 ≤ c) (per : ∀ t, f (t % c) = f t) (h : Canon c f A) (ne : A ≠ []) : Pm.Ok c (A.map rowG) := by
  rcases h with ⟨_, rfl⟩ | ⟨_, pw, mem⟩
  · have e : List.map rowG [(0, c)] = [(0, c - 1, 0)] := by
      show [(0, 0 + c - 1, 0)] = _
      rw [Int.zero_add]
    rw [e]; exact ok_one c1
  · have arc : ∀ g ∈ A, IsArc c f g := fun g hg => (mem g).mp hg
    have lap : ∀ g ∈ A, ∀ t, g.1 ≤ t → t < g.1 + g.2 → f t = true := fun g hg t t0 t1 => by
      have := (arc g hg).2.2.2.2.1 (t - g.1) (by omega) (by omega)
      rwa [show g.1 + (t - g.1) = t by omega] at this
    have off : ∀ g ∈ A, f (g.1 - 1) = false := fun g hg => (arc g hg).2.2.2.1
    refine ⟨c1, fun e => ne (List.map_eq_nil_iff.mp e), fun r hr => ?_, ?_, fun r hr s hs => ?_⟩
    · obtain ⟨g, hg, rfl⟩ := List.mem_map.mp hr
      have := (arc g hg).2.2.1
      show g.1 ≤ g.1 + g.2 - 1
      omega
    · rw [List.pairwise_map]
      refine pw.imp_of_mem fun {a b} ha hb lt => ?_
      have : a.1 + a.2 - 1 < b.1 := Decidable.byContradiction fun z => by
        have h1 := lap a ha (b.1 - 1) (by omega) (by omega)
        rw [off b hb] at h1; cases h1
      unfold Pm.GoesOn Pm.la rowG; simp only; omega
    · obtain ⟨a, ha, rfl⟩ := List.mem_map.mp hr
      obtain ⟨b, hb, rfl⟩ := List.mem_map.mp hs
      have ga := arc a ha
      have gb := arc b hb
      have : a.1 + a.2 - 1 - c < b.1 := Decidable.byContradiction fun z => by
        have h1 := lap a ha (b.1 - 1 + c) (by have := ga.2.1; have := gb.1; omega) (by omega)
        rw [per_add per, off b hb] at h1; cases h1
      unfold Pm.GoesOn rowG; simp only [Pm.mv2, Pm.la_mv]; unfold Pm.la; simp only; omega
theorem G_rowsG {c : Int} {A : List (Int × Int)} (c1 : 1 ≤ c) (hA : ∀ g ∈ A, 1 ≤ g.2 ∧ g.2 ≤ c) (z y : Int) : Pm.G c (A.map rowG) z y ↔ y = z ∧ lit c A z = true := by
  constructor
  · rintro ⟨r, hr, k, h1, h2, rfl⟩
    obtain ⟨g, hg, rfl⟩ := List.mem_map.mp hr
    unfold rowG at *
    simp only at *
    refine ⟨by omega, lit_iff.mpr ⟨g, hg, ?_⟩⟩
    have := hA g hg
    have e : z - g.1 = (z - g.1 - k * c) + c * k := by rw [Int.mul_comm c k]; omega
    rw [e, Int.add_mul_emod_self_left, Int.emod_eq_of_lt (by omega) (by omega)]
    omega
  · rintro ⟨rfl, h⟩
    obtain ⟨g, hg, hlt⟩ := lit_iff.mp h
    have e := Int.emod_add_mul_ediv (y - g.1) c
    have r0 := Int.emod_nonneg (y - g.1) (show c ≠ 0 by omega)
    have e2 := Int.mul_comm c ((y - g.1) / c)
    refine ⟨rowG g, List.mem_map.mpr ⟨g, hg, rfl⟩, (y - g.1) / c, ?_, ?_, ?_⟩ <;> unfold rowG <;> simp only <;> omega
/-- the arrival behind a signal is the next green moment -/
theorem next_of_G {c x : Int} {A : List (Int × Int)} {Z : List Rn} (ok : Pm.Ok c Z) (g : ∀ z y, Pm.G c Z z y ↔ y = z ∧ lit c A z = true) : NextAt (lit c A) x (Pm.F c Z x) := by
  obtain ⟨z, z0, gz, mz⟩ := ok.F_is x
  obtain ⟨e, h⟩ := (g _ _).mp gz
  rw [e]
  refine ⟨z0, h, fun k k0 k1 => ?_⟩
  cases hk : lit c A k with
  | false => rfl
  | true => exact absurd ((g k k).mpr ⟨rfl, hk⟩) (mz k k k0 k1)
def spPassOf (C : Addr) : Sp := fun vs H Q _ => ∃ (c : Int) (a : Addr) (gs : List (Int × Int)), vs = [.int c, .ref a] ∧ SigT H a gs ∧ OkG c gs ∧ c ≤ 10 ^ 30 ∧ ∀ p H' Z, Same H H' → PasAt C H' p c (3 * c) Z → (∀ z y, Pm.G c Z z y ↔ y = z ∧ lit c gs z = true) → Q (.ref p) H'
section
variable {P : Program} {w : World} {K : PySem.W.Frag} {mg : Str → Option Value} {base : Heap} {tC : Tok}
end
end Gr

set_option Elab.async false
set_option linter.all false
set_option pp.deepTerms false
set_option pp.maxSteps 3000
set_option maxRecDepth 100000
set_option maxHeartbeats 4000000
set_option exponentiation.threshold 3000
namespace Gr
open PySem PySem.Spec PyProof.Rows L2
open Pm (Rn)
/-! ### the draws -/
def Pond (n : Int) (p : Addr) (H : Hp) : Prop := ∃ a b c : Int, H p = some (.lst [.int a, .int b, .int c]) ∧ 0 ≤ b ∧ b < 10 ^ 60 ∧ 0 ≤ c ∧ c ≤ n
theorem Pond.mono {n m : Int} {p : Addr} {H : Hp} (h : Pond n p H) (l : n ≤ m) : Pond m p H := by
  obtain ⟨a, b, c, h1, h2, h3, h4, h5⟩ := h
  exact ⟨a, b, c, h1, h2, h3, h4, by omega⟩
theorem Pond.same {n : Int} {p : Addr} {H H' : Hp} (s : Same H H') (h : Pond n p H) : Pond n p H' := by
  obtain ⟨a, b, c, h1, h2⟩ := h
  exact ⟨a, b, c, s _ _ h1, h2⟩
theorem Pond.some {n : Int} {p : Addr} {H : Hp} (h : Pond n p H) : ∃ xs, H p = some (.lst xs) := by
  obtain ⟨a, b, c, h1, h2⟩ := h
  exact ⟨_, h1⟩
theorem Pond.ne {n : Int} {p : Addr} {H : Hp} (h : Pond n p H) : H p ≠ none := by
  obtain ⟨xs, h⟩ := h.some
  rw [h]; exact fun z => nomatch z
theorem Pond.new {n : Int} {p q : Addr} {H : Hp} {o : HO} (h : Pond n p H) (hq : H q = none) : Pond n p (upd H q o) := h.same (Same.new hq)
theorem p200 : ((2 ^ 200 : Nat) : Int) + 10 ^ 20 < ((2 ^ 1000 : Nat) : Int) := by decide +kernel
theorem q42 : (10 : Int) ^ (42 : Int).toNat + 63 ≠ 0 := by decide +kernel
theorem q44 : (10 : Int) ^ (44 : Int).toNat + 31 ≠ 0 := by decide +kernel
theorem p44 : (10 : Int) ^ (44 : Int).toNat + 31 < 10 ^ 60 := by decide +kernel
def spSpring (K : PySem.W.Frag) : Sp := fun vs H Q _ => ∃ (a : Addr) (k : Int) (ns : List Int), vs = [.ref a, .int k] ∧ SqL K H a (ns.map V.int) ∧ 0 ≤ k ∧ k ≤ 100 ∧ ∀ p H', H p = none → Same H H' → Pond 0 p H' → Q (.ref p) H'
def spTake : Sp := fun vs H Q _ => ∃ (p : Addr) (m n : Int), vs = [.ref p, .int m] ∧ Pond n p H ∧ n ≤ 10 ^ 9 ∧ 1 ≤ m ∧ m ≤ 10 ^ 100 ∧ ∀ r H', But p H H' → Pond (n + 1) p H' → 0 ≤ r → r < m → Q (.int r) H'
def spCyc : Sp := fun vs H Q _ => ∃ (p : Addr) (n : Int), vs = [.ref p] ∧ Pond n p H ∧ n ≤ 10 ^ 8 ∧ ∀ c H', But p H H' → Pond (n + 20) p H' → 1 ≤ c → c ≤ 10 ^ 30 → Q (.int c) H'
def spShares : Sp := fun vs H Q _ => ∃ (p : Addr) (n tot : Int) (mN : Nat), vs = [.ref p, .int tot, .int (mN : Int)] ∧ Pond n p H ∧ n ≤ 10 ^ 8 ∧ 0 ≤ tot ∧ tot ≤ 10 ^ 30 ∧ 1 ≤ mN ∧ mN ≤ 1000 ∧ ∀ (L : Addr) (ns : List Int) (H' : Hp), L ≠ p → But p H H' → Pond (n + 5000) p H' → H' L = some (.lst (ns.map V.int)) → ns.length = mN → (∀ x ∈ ns, 0 ≤ x) → ns.sum = tot → Q (.ref L) H'
section
variable {P : Program} {w : World} {K : PySem.W.Frag} {mg : Str → Option Value} {base : Heap} {tC : Tok}
theorem ok_take {f : Addr} {fd : FuncData} (B : Blt mg tC) (Dl_take : Def K mg "_law_take" s_l_take ["_law_spring_here", "_law_many"] f fd) : FnOk P w K mg base CX0 1 f fd ["_law_spring_here", "_law_many"] spTake := by
  refine Dl_take.F.ok scl_take (fun vs H Q E h => ?_) (fun cdv A outer s H vs Q E hr h => ⟨_, (pss_cons (ps_if (pt_cmpR op_gt (pe_ix ix_list (pv 0) pe_int (fun _ _ => rfl)) pe_int (nomark _))
   (pss_cons (ps_set (i := 2) scl_take.nd rfl (Or.inl rfl) (pe_op op_modN (pe_ix ix_list (pv 0) pe_int (fun _ _ => rfl)) (pv 1)))
  (pss_cons (ps_asg (pe_op op_fdivW (pe_ix ix_list (pv 0) pe_int (fun _ _ => rfl)) (pv 1)) (pg_sub (pv 0) pe_int set_list))
  (pss_one (ps_ret (pv 2)))))
   pss_nil)
  (pss_cons (ps_asg (pe_op op_add (pe_ix ix_list (pv 0) pe_int (fun _ _ => rfl)) pe_int) (pg_sub (pv 0) pe_int set_list))
  (pss_cons (ps_set (i := 3) scl_take.nd rfl (Or.inl rfl) (pe_op op_modN (pe_op op_powW (pe_op op_add (pe_ix ix_list (pv 0) pe_int (fun _ _ => rfl)) (pe_op op_mulW pe_int (pe_ix ix_list (pv 0) pe_int (fun _ _ => rfl)))) pe_int) (pe_op op_add (pe_op op_powW pe_int pe_int) pe_int)))
  (pss_cons (ps_set (i := 3) scl_take.nd rfl (Or.inl rfl) (pe_op op_modN (pe_op op_powW (pe_op op_add (pv 3) (pe_op op_mulW pe_int (pe_ix ix_list (pv 0) pe_int (fun _ _ => rfl)))) pe_int) (pe_op op_add (pe_op op_powW pe_int pe_int) pe_int)))
  (pss_one (ps_ret (pe_op op_modN (pe_op op_fdivW (pv 3) pe_int) (pv 1)))))))), ?_⟩)
  · obtain ⟨p, m, n, rfl, _⟩ := h; rfl
  · obtain ⟨p, m, n, rfl, ⟨a, b, c, hp, b0, b1, c0, c1⟩, hn, m1, m2, q⟩ := h
    refine ⟨_, rfl, p, _, _, _, rfl, rfl, SqL.of hp, rfl, _, _, rfl, rfl, _, rfl, ?_⟩
    have dm : CDivW a m := wide_div (b := 1000) (by omega) (draw_ok m1 (by omega)) (by decide) (by decide)
    by_cases ha : 0 < a
    · refine iteY ha ?_
      refine ⟨_, rfl, p, _, _, _, rfl, rfl, SqL.of hp, rfl, _, rfl, _, _, rfl, rfl, (by show m ≠ 0; omega), ?_⟩
      refine ⟨_, rfl, p, _, _, _, rfl, rfl, SqL.of hp, rfl, _, rfl, _, _, rfl, rfl, dm, _, rfl, p, _, _, _, rfl, rfl, hp, rfl, ?_⟩
      refine ⟨_, rfl, q _ _ (But.refl p H).at ⟨a / m, b, c, upd_same, b0, b1, c0, by omega⟩ (fmod_rng m1).1 (fmod_rng m1).2⟩
    · refine iteN ha ?_
      refine ⟨_, rfl, p, _, _, _, rfl, rfl, SqL.of hp, rfl, _, _, rfl, rfl, _, rfl, p, _, _, _, rfl, rfl, hp, rfl, ?_⟩
      have hp2 : (upd H p (.lst ([V.int a, .int b, .int c].set 2 (.int (c + 1))))) p = some (.lst [.int a, .int b, .int (c + 1)]) := upd_same
      refine ⟨_, rfl, p, _, _, _, rfl, rfl, SqL.of hp2, rfl, _, rfl, p, _, _, _, rfl, rfl, SqL.of hp2, rfl, _, _, rfl, rfl, mulc (by decide) (by decide) (by omega) (by omega), _, _, rfl, rfl, ?_⟩
      refine ⟨_, _, rfl, rfl, cube_of (by omega) (by have := e60; have := p200; omega), _, _, rfl, rfl, cp44, _, _, rfl, rfl, _, _, rfl, rfl, q44, ?_⟩
      have r1 := fmod_rng (x := (b + 104395301 * (c + 1)) ^ (3 : Int).toNat) (m := 10 ^ (44 : Int).toNat + 31) (by decide +kernel)
      refine ⟨_, rfl, _, rfl, p, _, _, _, rfl, rfl, SqL.of hp2, rfl, _, _, rfl, rfl, mulc (by decide) (by decide) (by omega) (by omega), _, _, rfl, rfl, ?_⟩
      refine ⟨_, _, rfl, rfl, cube_of (by omega) (by have := e60; have := p200; have := p44; omega), _, _, rfl, rfl, cp42, _, _, rfl, rfl, _, _, rfl, rfl, q42, ?_⟩
      refine ⟨_, rfl, _, _, rfl, rfl, ⟨by decide, by decide +kernel⟩, _, rfl, _, _, rfl, rfl, (by show m ≠ 0; omega), ?_⟩
      exact q _ _ (But.refl p H).at ⟨a, b, c + 1, upd_same, b0, b1, by omega, by omega⟩ (fmod_rng m1).1 (fmod_rng m1).2
theorem ok_spring {f : Addr} {fd : FuncData} (B : Blt mg tC) (Dl_spring : Def K mg "_law_spring" s_l_spring ["_law_script", "_law_k"] f fd) : FnOk P w K mg base CX0 1 f fd ["_law_script", "_law_k"] (spSpring K) := by
  refine Dl_spring.F.ok scl_spring (fun vs H Q E h => ?_) (fun cdv A outer s H vs Q E hr h => ⟨_, (pss_cons (ps_set (i := 2) scl_spring.nd rfl (Or.inl rfl) pe_int)
  (pss_cons (ps_if (pt_cmpR op_lt (pv 1) (pe_callB call_len_seq (by rfl) B.len PySem.boot_len (pa_cons (pv 0) pa_nil)) (nomark _))
   (pss_one (ps_set (i := 2) scl_spring.nd rfl (Or.inl rfl) (pe_ix ix_list (pv 0) (pv 1) (fun _ _ => rfl))))
   pss_nil)
  (pss_one (ps_ret (pe_lst (pa_cons (pe_callB (call_max2 rfl) (by rfl) B.n_max (by decide +kernel) (pa_cons pe_int (pa_cons (pe_op op_sub (pv 2) (pe_op op_powW pe_int pe_int)) pa_nil))) (pa_cons (pe_op op_add (pe_op op_add (pe_op op_mulW (pe_op op_modN (pv 2) (pe_op op_add (pe_op op_powW pe_int pe_int) pe_int)) pe_int) (pe_op op_mulW pe_int (pv 1))) pe_int) (pa_cons pe_int pa_nil)))))))), ?_⟩)
  · obtain ⟨a, k, ns, rfl, _⟩ := h; rfl
  · obtain ⟨a, k, ns, rfl, hS, k0, k1, q⟩ := h
    have cp18 : CPowW 10 18 := ⟨by decide, by decide +kernel⟩
    have cp39 : CPowW 10 39 := ⟨by decide, by decide +kernel⟩
    have e39 : ((10 : Int) ^ (39 : Int).toNat + 7) * 139 + 60101 * 100 + 31 < 10 ^ 60 := by decide +kernel
    have e1 : 1 ≤ (10 : Int) ^ (39 : Int).toNat + 7 := by decide +kernel
    have fin : ∀ z : Int, 0 ≤ z.fmod ((10 : Int) ^ (39 : Int).toNat + 7) * 139 + 60101 * k + 31 ∧ z.fmod ((10 : Int) ^ (39 : Int).toNat + 7) * 139 + 60101 * k + 31 < 10 ^ 60 := fun z => by
      have := fmod_rng (x := z) e1
      omega
    have big : ((10 : Int) ^ (39 : Int).toNat + 7) < ((2 ^ 200 : Nat) : Int) := by decide +kernel
    have cm : ∀ z : Int, CMulW (z.fmod ((10 : Int) ^ (39 : Int).toNat + 7)) 139 := fun z => by
      have := fmod_rng (x := z) e1
      exact wide_mul (a := 200) (b := 40) (natAbs_lt this.1 (by omega)) (by decide) (by decide) (by decide) (by decide)
    refine ⟨_, rfl, _, rfl, a, _, rfl, .inl hS, _, _, rfl, rfl, _, rfl, ?_⟩
    rw [List.length_map]
    by_cases hk : k < (ns.length : Int)
    · refine iteY hk ?_
      obtain ⟨v, _, hv⟩ := pick k0 hk
      refine ⟨_, rfl, _, rfl, a, _, _, _, rfl, rfl, hS, hv, ?_⟩
      refine ⟨_, rfl, _, _, rfl, rfl, cp18, _, _, rfl, rfl, _, _, rfl, _, rfl, _, _, rfl, rfl, cp39, _, _, rfl, rfl, _, _, rfl, rfl, (by show (10 : Int) ^ (39 : Int).toNat + 7 ≠ 0; omega), _, _, rfl, rfl, cm v, _, rfl, _, _, rfl, rfl, mulc (by decide) (by decide) k0 (by omega), _, _, rfl, rfl, _, _, rfl, rfl, (by show 3 ≤ sizeLine; decide), fun p hp => ?_⟩
      exact q p _ hp (Same.new hp) ⟨_, _, _, upd_same, (fin v).1, (fin v).2, by decide, by decide⟩
    · refine iteN hk ?_
      refine ⟨_, rfl, _, _, rfl, rfl, cp18, _, _, rfl, rfl, _, _, rfl, _, rfl, _, _, rfl, rfl, cp39, _, _, rfl, rfl, _, _, rfl, rfl, (by show (10 : Int) ^ (39 : Int).toNat + 7 ≠ 0; omega), _, _, rfl, rfl, cm 0, _, rfl, _, _, rfl, rfl, mulc (by decide) (by decide) k0 (by omega), _, _, rfl, rfl, _, _, rfl, rfl, (by show 3 ≤ sizeLine; decide), fun p hp => ?_⟩
      exact q p _ hp (Same.new hp) ⟨_, _, _, upd_same, (fin 0).1, (fin 0).2, by decide, by decide⟩
theorem cut_lo (xs : List V) (m : Nat) (hm : m ≤ xs.length) : cutV xs (some (m : Int)) none = xs.drop m := by
  unfold cutV
  rw [HT.sIx_nat, HT.sIx_none, Nat.min_eq_left hm, List.take_of_length_le (by rw [List.length_drop]; exact Nat.le_refl _)]
theorem cut_hi (xs : List V) (m : Nat) (hm : m ≤ xs.length) : cutV xs none (some (m : Int)) = xs.take m := by
  unfold cutV
  rw [HT.sIx_nat, HT.sIx_none, Nat.min_eq_left hm]
  simp
theorem sum_nn : ∀ (l : List Int), (∀ x ∈ l, 0 ≤ x) → 0 ≤ l.sum
  | [], _ => by simp
  | x :: l, h => by
    have := sum_nn l fun y hy => h y (List.mem_cons_of_mem _ hy)
    have := h x List.mem_cons_self
    rw [List.sum_cons]; omega
theorem ok_shares {f f1 : Addr} {fd fd1 : FuncData} (B : Blt mg tC) (Dl_shares : Def K mg "_law_shares" s_l_shares ["_law_spring_here", "_law_total", "_law_many"] f fd) (Dl_take : Def K mg "_law_take" s_l_take ["_law_spring_here", "_law_many"] f1 fd1) : FnOk P w K mg base CX0 2 f fd ["_law_spring_here", "_law_total", "_law_many"] spShares := by
  have Gl_take := ok_take (P := P) (w := w) (base := base) B Dl_take
  refine Dl_shares.F.ok scl_shares (fun vs H Q E h => ?_) (fun cdv A outer s H vs Q E hr h => ⟨_, (pss_cons (ps_set (i := 3) scl_shares.nd rfl (Or.inl rfl) (pe_lst pa_nil))
  (pss_cons (ps_for PassesOwn.never rfl (pi_range1 (by rfl) B.range (pa_cons (pe_op op_sub (pv 2) pe_int) pa_nil)) (pg_name (i := 4) scl_shares.nd rfl (Or.inl rfl))
   (pss_cons (ps_expr (pe_bm PySem.F.plainAttrs_list PySem.F.slot_list_append PySem.F.type_list_append mt_append (pv 3) (pa_cons (pe_call Gl_take (hr.mono (by decide)) (by rfl) Dl_take.g Dl_take.F.kp Dl_take.b .nil pass0 (pa_cons (pv 0) (pa_cons (pe_ix ix_list (pe_lst (pa_cons (pe_op op_add (pv 1) pe_int) (pa_cons (pe_op op_add (pe_callB (call_min2 rfl) (by rfl) B.n_min (by decide +kernel) (pa_cons (pv 1) (pa_cons pe_int pa_nil))) pe_int) pa_nil))) (pe_call Gl_take (hr.mono (by decide)) (by rfl) Dl_take.g Dl_take.F.kp Dl_take.b .nil pass0 (pa_cons (pv 0) (pa_cons pe_int pa_nil))) (fun _ _ => rfl)) pa_nil))) pa_nil)))
  (pss_one (ps_set (i := 1) scl_shares.nd rfl (Or.inl rfl) (pe_op op_sub (pv 1) (pe_ix ix_list (pv 3) (pe_un un_neg pe_int) (fun _ _ => rfl)))))))
  (pss_cons (ps_expr (pe_bm PySem.F.plainAttrs_list PySem.F.slot_list_append PySem.F.type_list_append mt_append (pv 3) (pa_cons (pv 1) pa_nil)))
  (pss_cons (ps_set (i := 5) scl_shares.nd rfl (Or.inl rfl) (pe_call Gl_take (hr.mono (by decide)) (by rfl) Dl_take.g Dl_take.F.kp Dl_take.b .nil pass0 (pa_cons (pv 0) (pa_cons (pv 2) pa_nil))))
  (pss_one (ps_ret (pe_op op_cat (pe_slice sl_list (pv 3) (po_some (pv 5)) po_none) (pe_slice sl_list (pv 3) po_none (po_some (pv 5)))))))))), ?_⟩)
  · obtain ⟨p, n, tot, mN, rfl, _⟩ := h; rfl
  · obtain ⟨p, n, tot, mN, rfl, hP, hn, t0, t1, m0, m1, q⟩ := h
    have e30 : (10 : Int) ^ 30 ≤ 10 ^ 100 - 10 := by decide +kernel
    have e3 : (1000 : Int) ≤ 10 ^ 100 := by decide +kernel
    refine ⟨Nat.zero_le _, fun D hD => ?_⟩
    have hDp : D ≠ p := fun z => by rw [z] at hD; exact hP.ne hD
    refine ⟨_, rfl, _, _, rfl, rfl, (mN : Int) - 1, rfl, by omega, by omega, ?_⟩
    refine for_range (lo := 0) (fun i σ H' => ∃ (ns : List Int) (t : Int) (y4 : Option V), σ = [some (.ref p), some (.int t), some (.int (mN : Int)), some (.ref D), y4, none] ∧ But p H H' ∧ Pond (n + 2 * i) p H' ∧ H' D = some (.lst (ns.map V.int)) ∧ ns.length = i ∧ (∀ x ∈ ns, 0 ≤ x) ∧ 0 ≤ t ∧ ns.sum + t = tot)
      ⟨[], tot, none, rfl, (But.refl p H).new hD, (hP.new hD).mono (by omega), upd_same, rfl, fun _ h => (List.not_mem_nil h).elim, t0, by simp⟩ ?_ ?_
    · rintro i σ H' hi ⟨ns, t, y4, rfl, bt, pd, hd, hlen, hns, ht0, hsum⟩
      have s0 : 0 ≤ ns.sum := sum_nn ns hns
      have hmin : 1 ≤ (if (3 : Int) < t then (3 : Int) else t) + 1 ∧ (if (3 : Int) < t then (3 : Int) else t) + 1 ≤ t + 1 := by split <;> omega
      refine ⟨_, rfl, .inl ⟨rfl, _, SqL.of hd⟩, _, rfl, _, rfl, _, _, rfl, rfl, _, rfl, _, _, rfl, _, _, rfl, rfl, (by show 2 ≤ sizeLine; decide), fun Z hZ => ?_⟩
      have hZp : Z ≠ p := fun z => by rw [z] at hZ; exact pd.ne hZ
      refine ⟨_, rfl, p, 2, _, rfl, pd.new hZ, by omega, by decide, by decide +kernel, fun r1 H1 b1 pd1 r10 r11 => ?_⟩
      obtain ⟨v, hv, ha⟩ := pick (xs := [t + 1, (if (3 : Int) < t then (3 : Int) else t) + 1]) r10 r11
      have v1 : 1 ≤ v ∧ v ≤ t + 1 := by
        simp only [List.mem_cons, List.not_mem_nil, or_false] at hv
        omega
      refine ⟨Z, _, _, _, rfl, rfl, SqL.of (b1 Z _ hZp upd_same), ha, p, v, _, rfl, pd1, by omega, v1.1, by omega, fun r2 H2 b2 pd2 r20 r21 => ?_⟩
      have hd2 := b2 D _ hDp (b1 D _ hDp (Same.new hZ _ _ hd))
      refine ⟨D, _, _, rfl, rfl, hd2, by rw [List.length_map]; exact smallL (by omega), ?_⟩
      refine ⟨_, rfl, _, rfl, _, rfl, D, _, _, _, rfl, rfl, SqL.of upd_same, atI_last _ _, _, _, rfl, rfl, ?_⟩
      refine ⟨ns ++ [r2], t - r2, _, rfl, (((bt.new hZ).trans b1).trans b2).mut hD, ?_, ?_, by simp [hlen], ?_, by omega, by simp; omega⟩
      · obtain ⟨a, b, c, h1, h2, h3, h4, h5⟩ := pd2
        exact ⟨a, b, c, (upd_ne hDp.symm).trans h1, h2, h3, h4, by omega⟩
      · rw [upd_same, List.map_append]; rfl
      · intro x hx
        rcases List.mem_append.mp hx with h | h
        · exact hns x h
        · rw [List.mem_singleton.mp h]; exact r20
    · rintro σ H' ⟨ns, t, y4, rfl, bt, pd, hd, hlen, hns, ht0, hsum⟩
      refine ⟨_, rfl, .inl ⟨rfl, _, SqL.of hd⟩, _, rfl, D, _, _, rfl, rfl, hd, by rw [List.length_map]; exact smallL (by omega), ?_⟩
      have pd' : Pond (n + 2 * ((mN - 1 : Int).toNat : Nat)) p (upd H' D (.lst (ns.map V.int ++ [V.int t]))) := by
        obtain ⟨a, b, c, h1, h2⟩ := pd
        exact ⟨a, b, c, (upd_ne hDp.symm).trans h1, h2⟩
      refine ⟨_, rfl, _, rfl, p, _, _, rfl, pd', by omega, by omega, by omega, fun r1 H1 b1 pd1 r10 r11 => ?_⟩
      have hd1 := b1 D _ hDp upd_same
      obtain ⟨k, rfl⟩ := Int.eq_ofNat_of_zero_le r10
      have lx : (ns.map V.int ++ [V.int t]).length = mN := by simp; omega
      refine ⟨_, rfl, _, rfl, _, rfl, ?_⟩
      unfold tNoPart
      refine ⟨D, _, rfl, SqL.of hd1, fun S hS => ?_⟩
      rw [cut_lo _ k (by omega)]
      have hdS := Same.new hS (o := .lst ((ns.map V.int ++ [V.int t]).drop k)) _ _ hd1
      refine ⟨_, rfl, _, rfl, _, rfl, D, _, rfl, SqL.of hdS, fun U hU => ?_⟩
      rw [cut_hi _ k (by omega)]
      refine ⟨S, U, _, _, rfl, rfl, Same.new hU _ _ upd_same, upd_same, ?_, fun W hW => ?_⟩
      · rw [List.length_drop, List.length_take]
        exact Nat.le_of_lt (smallL (by omega))
      · have e : (ns.map V.int ++ [V.int t]).drop k ++ (ns.map V.int ++ [V.int t]).take k = ((ns ++ [t]).drop k ++ (ns ++ [t]).take k).map V.int := by
          rw [List.map_append, List.map_drop, List.map_take, List.map_append]; rfl
        rw [e]
        refine q W _ _ (fun z => by rw [z] at hW; exact ((pd1.new hS).new hU).ne hW) ((((bt.mut hD).trans b1).new hS).new hU |>.new hW) ?_ upd_same ?_ ?_ ?_
        · exact (((pd1.new hS).new hU).new hW).mono (by omega)
        · rw [List.length_append, List.length_drop, List.length_take, List.length_append, List.length_singleton]
          omega
        · intro x hx
          rcases List.mem_append.mp hx with h | h
          · rcases List.mem_append.mp (List.mem_of_mem_drop h) with h | h
            · exact hns x h
            · rw [List.mem_singleton.mp h]; exact ht0
          · rcases List.mem_append.mp (List.mem_of_mem_take h) with h | h
            · exact hns x h
            · rw [List.mem_singleton.mp h]; exact ht0
        · have h1 : ((ns ++ [t]).take k ++ (ns ++ [t]).drop k).sum = tot := by rw [List.take_append_drop]; simpa using hsum
          rw [List.sum_append] at h1 ⊢
          omega
def RowsAt (H : Hp) (L : Addr) (rs : List Rn) : Prop := ∃ xs, H L = some (.lst xs) ∧ Paired (RnAt H) xs rs
def spRows : Sp := fun vs H Q _ => ∃ (p : Addr) (n c : Int) (mN : Nat) (b a : Int), vs = [.ref p, .int c, .int (mN : Int), .int b, .int a] ∧ Pond n p H ∧ n ≤ 10 ^ 7 ∧ 1 ≤ c ∧ c ≤ 10 ^ 30 ∧ 1 ≤ mN ∧ mN ≤ 1000 ∧ -(10 ^ 41) ≤ b ∧ b ≤ 10 ^ 41 ∧ -(10 ^ 41) ≤ a ∧ a ≤ 10 ^ 41 ∧
  ∀ (L : Addr) (rs : List Rn) (H' : Hp), L ≠ p → But p H H' → Pond (n + 20000) p H' → RowsAt H' L rs → Pm.Ok c rs → BR (10 ^ 42) rs → rs.length ≤ mN → Q (.ref L) H'
def spDrawn : Sp := fun vs H Q _ => ∃ (p : Addr) (n c m : Int), vs = [.ref p, .int c, .int m] ∧ Pond n p H ∧ n ≤ 10 ^ 6 ∧ 1 ≤ c ∧ c ≤ 10 ^ 30 ∧ 1 ≤ m ∧ m ≤ 1000 ∧
  ∀ (L : Addr) (rs : List Rn) (H' : Hp), L ≠ p → But p H H' → Pond (n + 20010) p H' → RowsAt H' L rs → Pm.Ok c rs → BR (10 ^ 42) rs → (rs.length : Int) ≤ m → Q (.ref L) H'
theorem drop_sum {l : List Int} {i : Nat} {x : Int} (h : l[i]? = some x) : (l.drop i).sum = x + (l.drop (i + 1)).sum := by
  obtain ⟨hi, e⟩ := List.getElem?_eq_some_iff.mp h
  rw [List.drop_eq_getElem_cons hi, e, List.sum_cons]
theorem get_lt {l : List Int} {i : Nat} (h : i < l.length) : ∃ x, l[i]? = some x := ⟨l[i], by simp [h]⟩
theorem ok_rows {f f1 f2 : Addr} {fd fd1 fd2 : FuncData} (B : Blt mg tC) (Dl_rows : Def K mg "_law_rows" s_l_rows ["_law_spring_here", "_law_cycle_here", "_law_many", "_law_begin", "_law_arrival"] f fd) (Dl_take : Def K mg "_law_take" s_l_take ["_law_spring_here", "_law_many"] f1 fd1) (Dl_shares : Def K mg "_law_shares" s_l_shares ["_law_spring_here", "_law_total", "_law_many"] f2 fd2) : FnOk P w K mg base CX0 3 f fd ["_law_spring_here", "_law_cycle_here", "_law_many", "_law_begin", "_law_arrival"] spRows := by
  have Gl_take := (ok_take (P := P) (w := w) (base := base) B Dl_take).mono (show 1 ≤ 2 by decide)
  have Gl_shares := ok_shares (P := P) (w := w) (base := base) B Dl_shares Dl_take
  refine Dl_rows.F.ok scl_rows (fun vs H Q E h => ?_) (fun cdv A outer s H vs Q E hr h => ⟨_, (pss_cons (ps_par3 (i := 5) (j := 6) (l := 2) rfl scl_rows.nd rfl rfl rfl (by decide) (by decide) (by decide) rfl rfl rfl (pa_cons (pe_lst pa_nil) (pa_cons (pv 1) (pa_cons (pe_callB (call_min2 rfl) (by rfl) B.n_min (by decide +kernel) (pa_cons (pv 2) (pa_cons (pv 1) pa_nil))) pa_nil))) (by rfl))
  (pss_cons (ps_for PassesOwn.never rfl (pi_range1 (by rfl) B.range (pa_cons (pv 2) pa_nil)) (pg_name (i := 7) scl_rows.nd rfl (Or.inl rfl))
   (pss_cons (ps_set (i := 8) scl_rows.nd rfl (Or.inl rfl) (pe_op op_sub (pv 6) (pe_op op_sub (pe_op op_sub (pv 2) (pv 7)) pe_int)))
  (pss_cons (ps_expr (pe_bm PySem.F.plainAttrs_list PySem.F.slot_list_append PySem.F.type_list_append mt_append (pv 5) (pa_cons (pe_op op_add pe_int (pe_call Gl_take (hr.mono (by decide)) (by rfl) Dl_take.g Dl_take.F.kp Dl_take.b .nil pass0 (pa_cons (pv 0) (pa_cons (pe_ix ix_list (pe_lst (pa_cons pe_int (pa_cons (pe_callB (call_min2 rfl) (by rfl) B.n_min (by decide +kernel) (pa_cons (pv 8) (pa_cons pe_int pa_nil))) (pa_cons (pv 8) pa_nil)))) (pe_call Gl_take (hr.mono (by decide)) (by rfl) Dl_take.g Dl_take.F.kp Dl_take.b .nil pass0 (pa_cons (pv 0) (pa_cons pe_int pa_nil))) (fun _ _ => rfl)) pa_nil)))) pa_nil)))
  (pss_one (ps_set (i := 6) scl_rows.nd rfl (Or.inl rfl) (pe_op op_sub (pv 6) (pe_ix ix_list (pv 5) (pe_un un_neg pe_int) (fun _ _ => rfl))))))))
  (pss_cons (ps_par3 (i := 9) (j := 10) (l := 11) rfl scl_rows.nd rfl rfl rfl (by decide) (by decide) (by decide) rfl rfl rfl (pa_cons (pe_call Gl_shares (hr.mono (by decide)) (by rfl) Dl_shares.g Dl_shares.F.kp Dl_shares.b .nil pass0 (pa_cons (pv 0) (pa_cons (pv 6) (pa_cons (pv 2) pa_nil)))) (pa_cons (pe_call Gl_shares (hr.mono (by decide)) (by rfl) Dl_shares.g Dl_shares.F.kp Dl_shares.b .nil pass0 (pa_cons (pv 0) (pa_cons (pv 6) (pa_cons (pv 2) pa_nil)))) (pa_cons (pe_lst pa_nil) pa_nil))) (by rfl))
  (pss_cons (ps_for PassesOwn.never rfl (pi_enum (by rfl) B.n_enumerate (pa_cons (pv 5) pa_nil)) (pg_tup rfl (pgs_cons (pg_name (i := 12) scl_rows.nd rfl (Or.inl rfl)) (pgs_cons (pg_name (i := 13) scl_rows.nd rfl (Or.inl rfl)) pgs_nil)))
   (pss_cons (ps_par (i := 3) (j := 4) rfl scl_rows.nd rfl rfl (by decide) rfl rfl (pa_cons (pe_op op_add (pv 3) (pe_ix ix_list (pv 9) (pv 12) (fun _ _ => rfl))) (pa_cons (pe_op op_add (pv 4) (pe_ix ix_list (pv 10) (pv 12) (fun _ _ => rfl))) pa_nil)) (by rfl))
  (pss_cons (ps_expr (pe_bm PySem.F.plainAttrs_list PySem.F.slot_list_append PySem.F.type_list_append mt_append (pv 11) (pa_cons (pe_tup (pa_cons (pv 3) (pa_cons (pe_op op_sub (pe_op op_add (pv 3) (pv 13)) pe_int) (pa_cons (pv 4) pa_nil)))) pa_nil)))
  (pss_one (ps_par (i := 3) (j := 4) rfl scl_rows.nd rfl rfl (by decide) rfl rfl (pa_cons (pe_op op_add (pv 3) (pv 13)) (pa_cons (pe_op op_add (pv 4) (pv 13)) pa_nil)) (by rfl))))))
  (pss_one (ps_ret (pv 11))))))), ?_⟩)
  · obtain ⟨p, n, c, mN, b, a, rfl, _⟩ := h; rfl
  · obtain ⟨p, n, c, mN, b, a, rfl, hP, hn, c1, c30, m0, m1, b0, b1, a0, a1, q⟩ := h
    refine ⟨Nat.zero_le _, fun D hD => ?_⟩
    have hDp : D ≠ p := fun z => by rw [z] at hD; exact hP.ne hD
    refine ⟨_, rfl, _, rfl, _, rfl, _, _, rfl, _, _, _, rfl, ?_⟩
    obtain ⟨m, hm⟩ : ∃ m : Nat, (if c < (mN : Int) then c else (mN : Int)) = (m : Int) := Int.eq_ofNat_of_zero_le (by split <;> omega)
    have lm : 1 ≤ m ∧ m ≤ mN ∧ (m : Int) ≤ c := by split at hm <;> omega
    rw [hm]
    have e30 : (10 : Int) ^ 30 ≤ 10 ^ 100 - 10 := by decide +kernel
    refine ⟨_, rfl, (m : Int), rfl, by omega, by omega, ?_⟩
    refine for_range (lo := 0) (fun i σ H' => ∃ (zs : List Int) (t : Int) (y7 y8 : Option V), σ = [some (.ref p), some (.int c), some (.int (m : Int)), some (.int b), some (.int a), some (.ref D), some (.int t), y7, y8, none, none, none, none, none] ∧ But p H H' ∧ Pond (n + 2 * i) p H' ∧ H' D = some (.lst (zs.map V.int)) ∧ zs.length = i ∧ (∀ x ∈ zs, 1 ≤ x) ∧ (m : Int) - i ≤ t ∧ zs.sum + t = c)
      ⟨[], c, none, none, rfl, (But.refl p H).new hD, (hP.new hD).mono (by omega), upd_same, rfl, fun _ h => (List.not_mem_nil h).elim, by omega, by simp⟩ ?_ ?_
    · rintro i σ H' hi ⟨zs, t, y7, y8, rfl, bt, pd, hd, hlen, hzs, ht0, hsum⟩
      have s0 : 0 ≤ zs.sum := sum_nn zs fun x hx => by have := hzs x hx; omega
      refine ⟨_, rfl, _, rfl, _, rfl, _, _, rfl, rfl, _, _, rfl, rfl, _, _, rfl, rfl, ?_⟩
      obtain ⟨R, hR⟩ : ∃ R : Int, t - ((m : Int) - (0 + (i : Int)) - 1) = R := ⟨_, rfl⟩
      simp only [hR]
      have R1 : 1 ≤ R ∧ R ≤ c := by omega
      refine ⟨_, rfl, .inl ⟨rfl, _, SqL.of hd⟩, _, rfl, _, rfl, _, _, rfl, _, rfl, (by show 3 ≤ sizeLine; decide), fun Z hZ => ?_⟩
      have hZp : Z ≠ p := fun z => by rw [z] at hZ; exact pd.ne hZ
      refine ⟨_, rfl, p, 3, _, rfl, pd.new hZ, by omega, by decide, by decide +kernel, fun r1 H1 b1 pd1 r10 r11 => ?_⟩
      obtain ⟨v, hv, ha⟩ := pick (xs := [1, (if (3 : Int) < R then (3 : Int) else R), R]) r10 r11
      have v1 : 1 ≤ v ∧ v ≤ R := by
        simp only [List.mem_cons, List.not_mem_nil, or_false] at hv
        split at hv <;> omega
      refine ⟨Z, _, _, _, rfl, rfl, SqL.of (b1 Z _ hZp upd_same), ha, p, v, _, rfl, pd1, by omega, v1.1, by omega, fun r2 H2 b2 pd2 r20 r21 => ⟨_, _, rfl, rfl, ?_⟩⟩
      have hd2 := b2 D _ hDp (b1 D _ hDp (Same.new hZ _ _ hd))
      refine ⟨D, _, _, rfl, rfl, hd2, by rw [List.length_map]; exact smallL (by omega), ?_⟩
      refine ⟨_, rfl, _, rfl, _, rfl, D, _, _, _, rfl, rfl, SqL.of upd_same, atI_last _ _, _, _, rfl, rfl, ?_⟩
      refine ⟨zs ++ [1 + r2], t - (1 + r2), _, _, rfl, (((bt.new hZ).trans b1).trans b2).mut hD, ?_, ?_, by simp [hlen], ?_, by omega, by simp; omega⟩
      · obtain ⟨a, b, c, h1, h2, h3, h4, h5⟩ := pd2
        exact ⟨a, b, c, (upd_ne hDp.symm).trans h1, h2, h3, h4, by omega⟩
      · rw [upd_same, List.map_append]; rfl
      · intro x hx
        rcases List.mem_append.mp hx with h | h
        · exact hzs x h
        · rw [List.mem_singleton.mp h]; omega
    · rintro σ H' ⟨zs, t, y7, y8, rfl, bt, pd, hd, hlen, hzs, ht0, hsum⟩
      have s0 : 0 ≤ zs.sum := sum_nn zs fun x hx => by have := hzs x hx; omega
      have hlen' : zs.length = m := by rw [hlen]; omega
      refine ⟨_, rfl, _, rfl, _, rfl, p, _, t, m, rfl, pd, by omega, by omega, by omega, by omega, by omega, fun La ns1 H1 nLa b1 pd1 hl1 len1 nn1 sum1 => ?_⟩
      refine ⟨_, rfl, _, rfl, _, rfl, p, _, t, m, rfl, pd1, by omega, by omega, by omega, by omega, by omega, fun Lb ns2 H2 nLb b2 pd2 hl2 len2 nn2 sum2 => ⟨Nat.zero_le _, fun F hF => ⟨_, _, _, rfl, ?_⟩⟩⟩
      have hFp : F ≠ p := fun z => by rw [z] at hF; exact pd2.ne hF
      have hD2 := b2 D _ hDp (b1 D _ hDp hd)
      have hl12 := b2 La _ nLa hl1
      have hF0 : H F = none := ((bt.trans b1).trans b2).fresh (hP.some.choose_spec) pd2.ne hF
      have hFD : F ≠ D := fun z => by rw [z, hD2] at hF; cases hF
      have hFa : F ≠ La := fun z => by rw [z, hl12] at hF; cases hF
      have hFb : F ≠ Lb := fun z => by rw [z, hl2] at hF; cases hF
      refine ⟨_, rfl, D, _, rfl, SqL.of (Same.new hF _ _ hD2), ?_⟩
      refine for_it (walk_enum (xs := zs.map V.int)) (fun i σ H' => ∃ (xs : List V) (rs : List Rn) (bb aa : Int) (y7' y8' y12 y13 : Option V), σ = [some (.ref p), some (.int c), some (.int (m : Int)), some (.int bb), some (.int aa), some (.ref D), some (.int t), y7', y8', some (.ref La), some (.ref Lb), some (.ref F), y12, y13] ∧
        But p H H' ∧ Pond (n + 20000) p H' ∧ H' D = some (.lst (zs.map V.int)) ∧ H' La = some (.lst (ns1.map V.int)) ∧ H' Lb = some (.lst (ns2.map V.int)) ∧ H' F = some (.lst xs) ∧ Paired (RnAt H') xs rs ∧ rs.length = i ∧
        bb + (ns1.drop i).sum + (zs.drop i).sum = b + c ∧ aa + (ns2.drop i).sum + (zs.drop i).sum = a + c ∧ b ≤ bb ∧ a ≤ aa ∧ (∀ r ∈ rs, b ≤ r.1 ∧ a ≤ r.2.2 ∧ r.1 ≤ r.2.1 ∧ r.2.1 < bb ∧ Pm.la r < aa) ∧ rs.Pairwise Pm.GoesOn)
        ⟨[], [], b, a, _, _, _, _, rfl, ((bt.trans b1).trans b2).new hF, (pd2.new hF).mono (by omega), Same.new hF _ _ hD2, Same.new hF _ _ hl12, Same.new hF _ _ hl2, upd_same, .nil, rfl, by simp; omega, by simp; omega, by omega, by omega, fun _ h => (List.not_mem_nil h).elim, .nil⟩
        (fun i σ H' _ ⟨xs, rs, bb, aa, y7', y8', y12, y13, _, _, _, h, _⟩ => SqL.of h) ?_ ?_
      · rintro i x σ H' H'' hi ⟨xs, rs, bb, aa, y7', y8', y12, y13, rfl, b3, pd3, hD3, ha3, hb3, hF3, hP3, lrs, eb, ea, bb0, aa0, hrs, pw⟩ ⟨T, x0, x1, rfl, hT, rfl, e0, e1⟩
        obtain rfl := Option.some.inj e0
        rw [List.length_map] at hi
        have smT := Same.new hT (o := .tup [.int (i : Nat), x1])
        obtain ⟨z, hz⟩ := get_lt hi
        obtain rfl : V.int z = x1 := by
          have e1' : (zs.map V.int)[i]? = some x1 := e1
          rw [List.getElem?_map, hz] at e1'; exact Option.some.inj e1'
        obtain ⟨u, hu⟩ := get_lt (l := ns1) (i := i) (by omega)
        obtain ⟨v, hv⟩ := get_lt (l := ns2) (i := i) (by omega)
        have hu' : (ns1.map V.int)[i]? = some (V.int u) := by rw [List.getElem?_map, hu]; rfl
        have hv' : (ns2.map V.int)[i]? = some (V.int v) := by rw [List.getElem?_map, hv]; rfl
        have z1 := hzs z (List.mem_of_getElem? hz)
        have u0 := nn1 u (List.mem_of_getElem? hu)
        have v0 := nn2 v (List.mem_of_getElem? hv)
        rw [drop_sum hu, drop_sum hz] at eb
        rw [drop_sum hv, drop_sum hz] at ea
        have q1 := sum_nn (ns1.drop (i + 1)) fun x hx => nn1 x (List.mem_of_mem_drop hx)
        have q2 := sum_nn (ns2.drop (i + 1)) fun x hx => nn2 x (List.mem_of_mem_drop hx)
        have q3 := sum_nn (zs.drop (i + 1)) fun x hx => by have := hzs x (List.mem_of_mem_drop hx); omega
        refine ⟨T, _, rfl, SqT.of upd_same, rfl, _, _, rfl, _, _, rfl, rfl, ?_⟩
        refine ⟨_, rfl, _, rfl, _, rfl, La, _, _, _, rfl, rfl, SqL.of (smT _ _ ha3), atI_nat (j := i) hu', _, _, rfl, rfl, _, rfl, _, rfl, _, rfl, Lb, _, _, _, rfl, rfl, SqL.of (smT _ _ hb3), atI_nat (j := i) hv', _, _, rfl, rfl, _, _, rfl, ?_⟩
        refine ⟨_, rfl, .inl ⟨rfl, _, SqL.of (smT _ _ hF3)⟩, _, rfl, _, rfl, _, rfl, _, _, rfl, rfl, _, _, rfl, rfl, _, rfl, (by show 3 ≤ sizeLine; decide), fun W hW => ?_⟩
        have smW := Same.new hW (o := .tup [.int (bb + u), .int (bb + u + z - 1), .int (aa + v)])
        have hFW := smW _ _ (smT _ _ hF3)
        refine ⟨F, _, _, rfl, rfl, hFW, smallL (by have := paired_len hP3; omega), ?_⟩
        refine ⟨_, rfl, _, rfl, _, _, rfl, rfl, _, rfl, _, rfl, _, _, rfl, rfl, _, _, rfl, ?_⟩
        refine ⟨_, rs ++ [(bb + u, bb + u + z - 1, aa + v)], bb + u + z, aa + v + z, _, _, _, _, rfl, ((b3.new hT).new hW).mut hF0, ?_, ?_, ?_, ?_, upd_same, ?_, by simp [lrs], by omega, by omega, by omega, by omega, ?_, ?_⟩
        · obtain ⟨a, b, c, h1, h2⟩ := (pd3.new hT).new hW
          exact ⟨a, b, c, (upd_ne hFp.symm).trans h1, h2⟩
        · rw [upd_ne hFD.symm]; exact smW _ _ (smT _ _ hD3)
        · rw [upd_ne hFa.symm]; exact smW _ _ (smT _ _ ha3)
        · rw [upd_ne hFb.symm]; exact smW _ _ (smT _ _ hb3)
        · refine paired_snoc (L2.Paired.mapP hP3 (G := RnAt _) ?_) ⟨W, rfl, ?_⟩
          · rintro x r ⟨b', e', h'⟩; refine ⟨b', e', ?_⟩; rw [upd_ne (ne_of h' hF3 (fun z => nomatch z))]; exact smW _ _ (smT _ _ h')
          · rw [upd_ne (fun z => by rw [z, (smT _ _ hF3)] at hW; cases hW)]; exact upd_same
        · intro r hr
          rcases List.mem_append.mp hr with h | h
          · have := hrs r h; omega
          · rw [List.mem_singleton.mp h]; unfold Pm.la; simp only; omega
        · rw [List.pairwise_append]
          refine ⟨pw, List.pairwise_singleton _ _, fun r hr s hs => ?_⟩
          rw [List.mem_singleton.mp hs]
          have := hrs r hr
          unfold Pm.GoesOn; simp only; omega
      · rintro σ H' ⟨xs, rs, bb, aa, y7', y8', y12, y13, rfl, b3, pd3, hD3, ha3, hb3, hF3, hP3, lrs, eb, ea, bb0, aa0, hrs, pw⟩
        rw [List.length_map, hlen'] at lrs eb ea
        rw [List.drop_of_length_le (by omega), List.drop_of_length_le (by omega)] at eb ea
        simp only [List.sum_nil, Int.add_zero] at eb ea
        refine ⟨_, rfl, q F rs H' hFp b3 pd3 ⟨xs, hF3, hP3⟩ ⟨c1, ?_, fun r hr => (hrs r hr).2.2.1, pw, fun r hr s hs => ?_⟩ (fun r hr => ?_) (by omega)⟩
        · intro e; rw [e] at lrs; simp at lrs; omega
        · have h1 := hrs r hr
          have h2 := hrs s hs
          unfold Pm.GoesOn
          simp only [Pm.mv2, Pm.la_mv]
          omega
        · have h1 := hrs r hr
          have := h1.2.2.2.2
          unfold Pm.la at this
          omega
end
end Gr

set_option Elab.async false
set_option linter.all false
set_option maxRecDepth 100000
set_option maxHeartbeats 4000000
/-! list(zip(..)) of any number of lists or tuples of one length -/
namespace LwO
open PySem PySem.W
/-- one of the walked things: its iterator, the cells that it reads, what it gives at each turn -/
structure Strm (prog : Program) (w : World) (A : Around) (n : Nat) where
  it : Addr
  fp : List Addr
  P : Nat → Value → Prop
  St : Nat → Heap → Prop
  D : Draws prog w A it fp n P St
  mem : it ∈ fp
section
variable {prog : Program} {w : World} {A : Around} {n : Nat}
def Apart (ss : List (Strm prog w A n)) : Prop := ss.Pairwise fun a b => a.it ∉ b.fp ∧ b.it ∉ a.fp
def AllAt (ss : List (Strm prog w A n)) (i : Nat) (h : Heap) : Prop := ∀ x ∈ ss, x.St i h
/-- a cell apart from all of them -/
def Off (ss : List (Strm prog w A n)) (c : Addr) : Prop := ∀ x ∈ ss, c ∉ x.fp
theorem Off.it {ss : List (Strm prog w A n)} {c : Addr} (o : Off ss c) : ∀ x ∈ ss, c ≠ x.it := fun x hx e => o x hx (e ▸ x.mem)
theorem AllAt.over {ss : List (Strm prog w A n)} {i : Nat} {h h' : Heap} {c : Addr} (a : AllAt ss i h) (o : Off ss c) (s : Heap.SameBut c h h') : AllAt ss i h' := fun x hx => x.D.over (a x hx) s (o x hx)
theorem AllAt.frame {ss : List (Strm prog w A n)} {i : Nat} {h h' : Heap} (a : AllAt ss i h) (k : ∀ x ∈ ss, ∀ b ∈ x.fp, ∀ o, h.get? b = some o → h'.get? b = some o) : AllAt ss i h' := fun x hx => x.D.frame _ _ _ (a x hx) (k x hx)
/-- a turn: each is asked once, in order; mk: how the loop keeps what has come -/
theorem each {σ : Type} {mk : Array Value → σ} {body : Value → σ → Sem (ForInStep σ)}
    (hb : ∀ (it : Addr) (acc : Array Value) (s : Shared) (Q : ForInStep σ → Shared → Prop) (E : Value → Shared → Prop), wpAny (model prog w) A (Builtin.SmallTypes.nextOf (.ref it)) (fun x s' => Q (.yield (mk (acc.push x))) s') E s → wpAny (model prog w) A (body (.ref it) (mk acc)) Q E s)
    {i : Nat} (hi : i < n) {Q : σ → Shared → Prop} {E : Value → Shared → Prop} :
    ∀ (ss : List (Strm prog w A n)) (acc : Array Value) (s : Shared), Apart ss → AllAt ss i s.heap →
      (∀ (xs : List Value) (h' : Heap) (tk : Nat), xs.length = ss.length → (∀ (j : Nat) (x : Strm prog w A n) (v : Value), ss[j]? = some x → xs[j]? = some v → x.P i v) → AllAt ss (i + 1) h' →
        (∀ c o, (∀ x ∈ ss, c ≠ x.it) → s.heap.get? c = some o → h'.get? c = some o) → h'.objs.size = s.heap.objs.size → Q (mk (acc ++ xs.toArray)) { s with heap := h', toks := tk }) →
      wpAny (model prog w) A (forIn (ss.map fun x => Value.ref x.it) (mk acc) body) Q E s
  | [], acc, s, _, _, hQ => by
    rw [List.map_nil, List.forIn_nil]
    have := hQ [] s.heap s.toks rfl (fun j x v h => by simp at h) (fun x h => by cases h) (fun c o _ e => e) rfl
    rw [show acc ++ ([] : List Value).toArray = acc by simp] at this
    exact wpAny_pure this
  | x :: ss, acc, s, ap, st, hQ => by
    obtain ⟨a1, a2⟩ := List.pairwise_cons.mp ap
    rw [List.map_cons, List.forIn_cons]
    refine wpAny_bind (hb x.it acc s _ E (x.D.item i s _ E hi (st x List.mem_cons_self) fun v h1 tk1 hv st1 sb => ?_))
    show wpAny (model prog w) A (forIn (ss.map fun x => Value.ref x.it) (mk (acc.push v)) body) Q E { s with heap := h1, toks := tk1 }
    refine each hb hi ss (acc.push v) { s with heap := h1, toks := tk1 } a2 (fun y hy => y.D.over (st y (List.mem_cons_of_mem _ hy)) sb (a1 y hy).1) fun xs h' tk hl hp st' hk hs => ?_
    have := hQ (v :: xs) h' tk (by simp [hl]) (fun j y u hj hu => ?_) (fun y hy => ?_) (fun c o hc e => ?_) (by rw [hs]; exact sb.1)
    · rw [show acc.push v ++ xs.toArray = acc ++ (v :: xs).toArray by simp]
      exact this
    · cases j with
      | zero => simp at hj hu; subst hj hu; exact hv
      | succ j => exact hp j y u (by simpa using hj) (by simpa using hu)
    · rcases List.mem_cons.mp hy with rfl | hy
      · exact y.D.frame _ _ _ st1 fun b hb' o e => hk b o (fun z hz ez => (a1 z hz).2 (ez ▸ hb')) e
      · exact st' y hy
    · exact hk c o (fun z hz => hc z (List.mem_cons_of_mem _ hz)) (sb.extBut _ _ (hc x List.mem_cons_self) e)
theorem next_held {z TI TO T : Addr} {f : Bool} {oT : Obj} {i : Nat} {s : Shared} {E : Value → Shared → Prop} {Q : Value → Shared → Prop} {ss : List (Strm prog w A n)} (ne : ss ≠ []) (ap : Apart ss) (zo : Off ss z)
    (hz : IsZipHeld s.heap z TI TO T f) (hT : s.heap.get? T = some oT) (hTI : s.heap.get? TI = some { cls := .type "tuple", data := .seq (ss.map fun x => Value.ref x.it).toArray }) (st : AllAt ss i s.heap) (hi : i < n) (hl : ss.length ≤ sizeLine)
    (hQ : ∀ (xs : List Value) (h' : Heap) (tk : Nat), xs.length = ss.length → (∀ (j : Nat) (x : Strm prog w A n) (v : Value), ss[j]? = some x → xs[j]? = some v → x.P i v) → IsZipHeld h' z TI TO T true → AllAt ss (i + 1) h' →
      h'.get? s.heap.objs.size = some { cls := .type "tuple", data := .seq xs.toArray } → h'.objs.size = s.heap.objs.size + 1 → (∀ c o, c ≠ z → (∀ x ∈ ss, c ≠ x.it) → s.heap.get? c = some o → h'.get? c = some o) → Q (.ref s.heap.objs.size) { s with heap := h', toks := tk }) :
    wpAny (model prog w) A (Builtin.«zip.__next__» ⟨[.ref z], []⟩) (fun fin s' => ∃ v, fin = .done (.ret v) ∧ Q v s') E s := by
  obtain ⟨hp, g, d, tk0, os⟩ := s
  show wpAny _ _ (field (.ref z) 2 >>= _) _ _ _
  refine wpAny_bind (wpAny_field hz rfl (x := .bool false) rfl ?_)
  show wpAny _ _ (field (.ref z) 3 >>= _) _ _ _
  refine wpAny_bind (wpAny_field hz rfl (x := .ref TI) rfl ?_)
  refine wpAny_bind (wpAny_seqItems hTI rfl ?_)
  have ie : (ss.map fun x => Value.ref x.it).toArray.isEmpty = false := by
    cases ss with
    | nil => exact absurd rfl ne
    | cons a l => simp
  simp only [ie]
  refine wpAny_bind (wpAny_tupleHeld_zip hz hT fun h₁ hz₁ hs₁ => ?_)
  simp only [Bool.false_eq_true, if_false]
  refine wpAny_bind ?_
  rw [← Array.forIn_toList]
  refine each (mk := fun acc => ((none : Option PySem.Fin), acc)) (fun it acc s Q E h => ?_) hi ss #[] _ ap (st.over zo hs₁) fun xs h' tk hl' hp' st' hk hs => ?_
  · refine wpAny_bind (wpAny_holding ?_)
    show wpAny _ _ (Builtin.SmallTypes.nextOf (.ref it) >>= _) _ _ _
    refine wpAny_bind (wpAny_mono h (fun x s' q => ?_) fun _ _ e => e)
    exact wpAny_pure (wpAny_pure q)
  · show wpAny _ _ (newTuple ((#[] : Array Value) ++ xs.toArray).toList >>= _) _ _ _
    rw [show ((#[] : Array Value) ++ xs.toArray).toList = xs from by simp]
    refine wpAny_bind (wpAny_newTuple ?_ (by rw [hl']; exact hl))
    have hsz : h'.objs.size = hp.objs.size := by rw [hs]; exact hs₁.1
    have up : ∀ c o, c ≠ z → (∀ x ∈ ss, c ≠ x.it) → hp.get? c = some o → (h'.push { cls := .type "tuple", data := .seq xs.toArray }).get? c = some o := fun c o c1 c2 e => Heap.get?_push_of_some _ (hk c o c2 (hs₁.extBut _ _ c1 e))
    refine wpAny_pure ⟨_, rfl, ?_⟩
    have hpN : (h'.push { cls := .type "tuple", data := .seq xs.toArray }).get? h'.objs.size = some { cls := .type "tuple", data := .seq xs.toArray } := Heap.get?_push_size _ rfl
    have hz4 : (h'.push { cls := .type "tuple", data := .seq xs.toArray }).objs.size = h'.objs.size + 1 := Heap.size_push ..
    show Q (.ref h'.objs.size) ⟨h'.push { cls := .type "tuple", data := .seq xs.toArray }, g, d, tk, os⟩
    rw [hsz] at hpN hz4 ⊢
    exact hQ xs _ tk hl' hp' (Heap.get?_push_of_some _ (hk z _ zo.it hz₁)) (st'.frame fun x _ b _ o e => Heap.get?_push_of_some _ e) hpN hz4 up
theorem end_held {z TI TO T : Addr} {f : Bool} {oT : Obj} {s : Shared} {E : Value → Shared → Prop} {Q : PySem.Fin → Shared → Prop} {x : Strm prog w A n} {ss : List (Strm prog w A n)} (zo : Off (x :: ss) z)
    (hz : IsZipHeld s.heap z TI TO T f) (hT : s.heap.get? T = some oT) (hTI : s.heap.get? TI = some { cls := .type "tuple", data := .seq ((x :: ss).map fun x => Value.ref x.it).toArray }) (st : AllAt (x :: ss) n s.heap)
    (hE : ∀ h' e, (∀ c o, c ≠ z → c ≠ x.it → s.heap.get? c = some o → h'.get? c = some o) → (∃ o, h'.get? e = some o ∧ o.cls = .type "StopIteration") → E (.ref e) { s with heap := h' }) :
    wpAny (model prog w) A (Builtin.«zip.__next__» ⟨[.ref z], []⟩) Q E s := by
  obtain ⟨hp, g, d, tk0, os⟩ := s
  show wpAny _ _ (field (.ref z) 2 >>= _) _ _ _
  refine wpAny_bind (wpAny_field hz rfl (x := .bool false) rfl ?_)
  show wpAny _ _ (field (.ref z) 3 >>= _) _ _ _
  refine wpAny_bind (wpAny_field hz rfl (x := .ref TI) rfl ?_)
  refine wpAny_bind (wpAny_seqItems hTI rfl ?_)
  have ie : ((x :: ss).map fun x => Value.ref x.it).toArray.isEmpty = false := by simp
  simp only [ie]
  refine wpAny_bind (wpAny_tupleHeld_zip hz hT fun h₁ hz₁ hs₁ => ?_)
  simp only [Bool.false_eq_true, if_false]
  refine wpAny_bind ?_
  rw [← Array.forIn_toList]
  show wpAny _ _ (forIn (Value.ref x.it :: ss.map fun x => Value.ref x.it) _ _) _ _ _
  rw [List.forIn_cons]
  refine wpAny_bind (wpAny_bind (wpAny_holding ?_))
  show wpAny _ _ (Builtin.SmallTypes.nextOf (.ref x.it) >>= _) _ _ _
  refine wpAny_bind (x.D.done _ _ _ ((st.over zo hs₁) x List.mem_cons_self) fun h₂ e hs₂ he => ?_)
  exact hE h₂ e (fun c o c1 c2 y => hs₂ _ _ c2 (hs₁.extBut _ _ c1 y)) he
/-- the first turn: the zip fills the tuple that it owns -/
abbrev tupO (a : Array Value) : Obj := { cls := .type "tuple", data := .seq a }
theorem eachF {σ : Type} {m0 : σ} {TO : Addr} {body : Value × Nat → σ → Sem (ForInStep σ)}
    (hb : ∀ (it : Addr) (k : Nat) (s : Shared) (Q : ForInStep σ → Shared → Prop) (E : Value → Shared → Prop), (∀ E', wpAny (model prog w) A (Builtin.SmallTypes.nextOf (.ref it)) (fun x s1 => ∃ arr, arr.size ≤ sizeLine ∧ s1.heap.get? TO = some (tupO arr) ∧ ∀ h2, h2.get? TO = some (tupO (arr.setIfInBounds k x)) → Heap.SameBut TO s1.heap h2 → Q (.yield m0) { s1 with heap := h2 }) E' s) → wpAny (model prog w) A (body (.ref it, k) m0) Q E s)
    {i : Nat} (hi : i < n) {Q : σ → Shared → Prop} {E : Value → Shared → Prop} :
    ∀ (ss : List (Strm prog w A n)) (k : Nat) (arr : Array Value) (s : Shared), Apart ss → Off ss TO → AllAt ss i s.heap → arr.size = k + ss.length → arr.size ≤ sizeLine → s.heap.get? TO = some (tupO arr) →
      (∀ (xs : List Value) (h' : Heap) (tk : Nat), xs.length = ss.length → (∀ (j : Nat) (x : Strm prog w A n) (v : Value), ss[j]? = some x → xs[j]? = some v → x.P i v) → AllAt ss (i + 1) h' → h'.get? TO = some (tupO (arr.toList.take k ++ xs).toArray) →
        (∀ c o, c ≠ TO → (∀ x ∈ ss, c ≠ x.it) → s.heap.get? c = some o → h'.get? c = some o) → h'.objs.size = s.heap.objs.size → Q m0 { s with heap := h', toks := tk }) →
      wpAny (model prog w) A (forIn ((ss.map fun x => Value.ref x.it).zipIdx k) m0 body) Q E s
  | [], k, arr, s, _, _, _, hz, _, hO, hQ => by
    rw [List.map_nil, List.zipIdx_nil, List.forIn_nil]
    have := hQ [] s.heap s.toks rfl (fun j x v h => by simp at h) (fun x h => by cases h) (by
      rw [List.append_nil, List.take_of_length_le (by simp at hz; simp; omega)]; simpa using hO) (fun c o _ _ e => e) rfl
    exact wpAny_pure this
  | x :: ss, k, arr, s, ap, to, st, hz, hL, hO, hQ => by
    obtain ⟨a1, a2⟩ := List.pairwise_cons.mp ap
    have tx : TO ≠ x.it := to.it x List.mem_cons_self
    rw [List.map_cons, List.zipIdx_cons, List.forIn_cons]
    refine wpAny_bind (hb x.it k s _ E fun E' => x.D.item i s _ E' hi (st x List.mem_cons_self) fun v h1 tk1 hv st1 sb => ⟨arr, hL, sb.extBut _ _ tx hO, fun h2 hO2 sb2 => ?_⟩)
    show wpAny (model prog w) A (forIn ((ss.map fun x => Value.ref x.it).zipIdx (k + 1)) m0 body) Q E { s with heap := h2, toks := tk1 }
    have to' : Off ss TO := fun y hy => to y (List.mem_cons_of_mem _ hy)
    have hk1 : k < arr.size := by simp at hz; omega
    refine eachF hb hi ss (k + 1) (arr.setIfInBounds k v) { s with heap := h2, toks := tk1 } a2 to' (fun y hy => y.D.over (y.D.over (st y (List.mem_cons_of_mem _ hy)) sb (a1 y hy).1) sb2 (to' y hy)) (by simp at hz ⊢; omega) (by simpa using hL) hO2 fun xs h' tk hl hp st' hO' hk hs => ?_
    have := hQ (v :: xs) h' tk (by simp [hl]) (fun j y u hj hu => ?_) (fun y hy => ?_) ?_ (fun c o c1 hc e => ?_) (by rw [hs]; show h2.objs.size = _; rw [sb2.1]; exact sb.1)
    · exact this
    · cases j with
      | zero => simp at hj hu; subst hj hu; exact hv
      | succ j => exact hp j y u (by simpa using hj) (by simpa using hu)
    · rcases List.mem_cons.mp hy with rfl | hy
      · exact y.D.frame _ _ _ (y.D.over st1 sb2 (to y List.mem_cons_self)) fun b hb' o e => hk b o (fun z => to y List.mem_cons_self (z ▸ hb')) (fun z hz ez => (a1 z hz).2 (ez ▸ hb')) e
      · exact st' y hy
    · rw [hO']
      congr 3
      have e : (arr.setIfInBounds k v).toList.take (k + 1) = arr.toList.take k ++ [v] := by
        rw [Array.toList_setIfInBounds, List.take_add_one, List.take_set_of_le (Nat.le_refl k)]
        simp [List.getElem?_set_self, hk1]
      rw [e, List.append_assoc]
      rfl
    · exact hk c o c1 (fun z hz => hc z (List.mem_cons_of_mem _ hz)) (sb2.extBut _ _ c1 (sb.extBut _ _ (hc x List.mem_cons_self) e))
theorem next_free {z TI TO : Addr} {i : Nat} {arr : Array Value} {s : Shared} {E : Value → Shared → Prop} {Q : Value → Shared → Prop} {ss : List (Strm prog w A n)} (ne : ss ≠ []) (ap : Apart ss) (zo : Off ss z) (to : Off ss TO) (tz : TO ≠ z)
    (hz : IsZip s.heap z TI TO .none) (hTI : s.heap.get? TI = some { cls := .type "tuple", data := .seq (ss.map fun x => Value.ref x.it).toArray }) (hO : s.heap.get? TO = some (tupO arr)) (ha : arr.size = ss.length) (st : AllAt ss i s.heap) (hi : i < n) (hl : ss.length ≤ sizeLine)
    (hQ : ∀ (xs : List Value) (h' : Heap) (tk : Nat), xs.length = ss.length → (∀ (j : Nat) (x : Strm prog w A n) (v : Value), ss[j]? = some x → xs[j]? = some v → x.P i v) → IsZip h' z TI TO (rawInt s.heap.objs.size) → AllAt ss (i + 1) h' →
      h'.get? s.heap.objs.size = some (tupO xs.toArray) → h'.get? TO = some (tupO xs.toArray) → h'.objs.size = s.heap.objs.size + 1 → (∀ c o, c ≠ z → c ≠ TO → (∀ x ∈ ss, c ≠ x.it) → s.heap.get? c = some o → h'.get? c = some o) → Q (.ref s.heap.objs.size) { s with heap := h', toks := tk }) :
    wpAny (model prog w) A (Builtin.«zip.__next__» ⟨[.ref z], []⟩) (fun fin s' => ∃ v, fin = .done (.ret v) ∧ Q v s') E s := by
  obtain ⟨hp, g, d, tk0, os⟩ := s
  show wpAny _ _ (field (.ref z) 2 >>= _) _ _ _
  refine wpAny_bind (wpAny_field hz rfl (x := .bool false) rfl ?_)
  show wpAny _ _ (field (.ref z) 3 >>= _) _ _ _
  refine wpAny_bind (wpAny_field hz rfl (x := .ref TI) rfl ?_)
  refine wpAny_bind (wpAny_seqItems hTI rfl ?_)
  have ie : (ss.map fun x => Value.ref x.it).toArray.isEmpty = false := by
    cases ss with
    | nil => exact absurd rfl ne
    | cons a l => simp
  simp only [ie]
  refine wpAny_bind ?_
  unfold Builtin.SmallTypes.ownedTupleIsFree
  refine wpAny_bind (wpAny_field hz rfl (x := .none) rfl (wpAny_pure ?_))
  simp only [if_true]
  refine wpAny_bind (wpAny_rule ?_)
  refine wpAny_bind (wpAny_field hz rfl (x := .ref TO) rfl ?_)
  refine wpAny_bind (wpAny_setField_rec hz (by simp) fun g0 hz0 hs0 => ?_)
  replace hz0 : IsZip g0 z TI TO .ellipsis := hz0
  replace hs0 : Heap.SameBut z hp g0 := hs0
  refine wpAny_bind ?_
  refine eachF (m0 := ((none : Option PySem.Fin), ())) (TO := TO) (fun it k s Q E h => ?_) hi ss 0 arr _ ap to (st.over zo hs0) (by rw [ha]; omega) (by rw [ha]; exact hl) (hs0.extBut _ _ tz hO) fun xs h' tk hl' hp' st' hO' hk hs => ?_
  · refine wpAny_bind (wpAny_onRaise ?_)
    show wpAny _ _ (Builtin.SmallTypes.nextOf (.ref it) >>= _) _ _ _
    refine wpAny_bind (wpAny_mono (h _) (fun x s1 q => ?_) fun _ _ e => e)
    obtain ⟨arr', hL, hA, q⟩ := q
    refine wpAny_pure ?_
    refine wpAny_bind (wpAny_seqItems hA rfl ?_)
    refine wpAny_bind (wpAny_updateSeq hA rfl ?_ hL (by simp; omega))
    refine wpAny_bind (wpAny_letGo (wpAny_pure (q _ ?_ (Heap.SameBut.update ..))))
    rw [Heap.get?_update_self _ hA rfl]
    simp [Obj.mapSeq]
  · rw [List.take_zero, List.nil_append] at hO'
    refine wpAny_bind (wpAny_seqItems hO' rfl ?_)
    show wpAny _ _ (newTuple xs.toArray.toList >>= _) _ _ _
    rw [List.toList_toArray]
    refine wpAny_bind (wpAny_newTuple ?_ (by rw [hl']; exact hl))
    have hsz : h'.objs.size = hp.objs.size := by rw [hs]; exact hs0.1
    have hzz : IsZip h' z TI TO .ellipsis := hk z _ tz.symm zo.it hz0
    have hzlt : z < h'.objs.size := Heap.lt_size hzz
    refine wpAny_bind ?_
    unfold Builtin.SmallTypes.ownedTupleHandOut
    have hz₆ : IsZip (h'.push (tupO xs.toArray)) z TI TO .ellipsis := Heap.get?_push_of_some _ hzz
    refine wpAny_bind (wpAny_setField_rec hz₆ (by simp) fun h₇ hz₇ hs₇ => ?_)
    replace hz₇ : IsZip h₇ z TI TO (rawInt h'.objs.size) := hz₇
    refine wpAny_setField_rec hz₇ (by simp) fun h₈ hz₈ hs₈ => ?_
    replace hz₈ : IsZip h₈ z TI TO (rawInt h'.objs.size) := hz₈
    replace hs₇ : Heap.SameBut z (h'.push (tupO xs.toArray)) h₇ := hs₇
    replace hs₈ : Heap.SameBut z h₇ h₈ := hs₈
    have up : ∀ c o, c ≠ z → h'.get? c = some o → h₈.get? c = some o := fun c o c1 e => hs₈.extBut _ _ c1 (hs₇.extBut _ _ c1 (Heap.get?_push_of_some _ e))
    have hT₈ : h₈.get? h'.objs.size = some (tupO xs.toArray) := hs₈.extBut _ _ (Nat.ne_of_gt hzlt) (hs₇.extBut _ _ (Nat.ne_of_gt hzlt) (Heap.get?_push_size _ rfl))
    have hz8 : h₈.objs.size = h'.objs.size + 1 := by rw [hs₈.1, hs₇.1, Heap.size_push]
    rw [hsz] at hz₈ hT₈ hz8
    refine wpAny_pure ⟨_, rfl, ?_⟩
    show Q (.ref h'.objs.size) ⟨h₈, g, d, tk, os⟩
    rw [hsz]
    exact hQ xs h₈ tk hl' hp' hz₈ (st'.frame fun y hy b hb o e => up b o (fun q => zo y hy (q ▸ hb)) e) hT₈ (up _ _ tz hO') hz8 fun c o cz cT c1 e => up c o cz (hk c o cT c1 (hs0.extBut _ _ cz e))
theorem end_free {z TI TO : Addr} {s : Shared} {E : Value → Shared → Prop} {Q : PySem.Fin → Shared → Prop} {x : Strm prog w A n} {ss : List (Strm prog w A n)} (zo : Off (x :: ss) z)
    (hz : IsZip s.heap z TI TO .none) (hTI : s.heap.get? TI = some { cls := .type "tuple", data := .seq ((x :: ss).map fun x => Value.ref x.it).toArray }) (st : AllAt (x :: ss) n s.heap)
    (hE : ∀ h' e, (∀ c o, c ≠ z → c ≠ x.it → s.heap.get? c = some o → h'.get? c = some o) → (∃ o, h'.get? e = some o ∧ o.cls = .type "StopIteration") → E (.ref e) { s with heap := h' }) :
    wpAny (model prog w) A (Builtin.«zip.__next__» ⟨[.ref z], []⟩) Q E s := by
  obtain ⟨hp, g, d, tk0, os⟩ := s
  show wpAny _ _ (field (.ref z) 2 >>= _) _ _ _
  refine wpAny_bind (wpAny_field hz rfl (x := .bool false) rfl ?_)
  show wpAny _ _ (field (.ref z) 3 >>= _) _ _ _
  refine wpAny_bind (wpAny_field hz rfl (x := .ref TI) rfl ?_)
  refine wpAny_bind (wpAny_seqItems hTI rfl ?_)
  have ie : ((x :: ss).map fun x => Value.ref x.it).toArray.isEmpty = false := by simp
  simp only [ie]
  refine wpAny_bind ?_
  unfold Builtin.SmallTypes.ownedTupleIsFree
  refine wpAny_bind (wpAny_field hz rfl (x := .none) rfl (wpAny_pure ?_))
  simp only [if_true]
  refine wpAny_bind (wpAny_rule ?_)
  refine wpAny_bind (wpAny_field hz rfl (x := .ref TO) rfl ?_)
  refine wpAny_bind (wpAny_setField_rec hz (by simp) fun g0 hz0 hs0 => ?_)
  replace hz0 : IsZip g0 z TI TO .ellipsis := hz0
  replace hs0 : Heap.SameBut z hp g0 := hs0
  refine wpAny_bind ?_
  show wpAny _ _ (forIn ((Value.ref x.it :: ss.map fun x => Value.ref x.it).zipIdx 0) _ _) _ _ _
  rw [List.zipIdx_cons, List.forIn_cons]
  refine wpAny_bind (wpAny_bind (wpAny_onRaise ?_))
  show wpAny _ _ (Builtin.SmallTypes.nextOf (.ref x.it) >>= _) _ _ _
  refine wpAny_bind (x.D.done _ _ _ ((st.over zo hs0) x List.mem_cons_self) fun q e hq he => ?_)
  obtain ⟨oe, hoe, hce⟩ := he
  replace hoe : q.get? e = some oe := hoe
  replace hq : Heap.ExtBut x.it g0 q := hq
  have hzq : IsZip q z TI TO .ellipsis := hq _ _ (zo.it x List.mem_cons_self) hz0
  have hez : e ≠ z := fun y => by subst y; rw [hzq] at hoe; cases hoe; simp at hce
  refine wpAny_setField_rec (s := ⟨q, g, d, tk0, os⟩) hzq (by simp) fun q' _ hq' => ?_
  replace hq' : Heap.SameBut z q q' := hq'
  exact hE q' e (fun c o cz c1 y => hq'.extBut _ _ cz (hq _ _ c1 (hs0.extBut _ _ cz y))) ⟨oe, hq'.extBut _ _ hez hoe, hce⟩
end
section
variable {prog : Program} {w : World} {A : Around} {n : Nat} {E : Value → Shared → Prop} {s : Shared}
theorem pyNext_of {z : Addr} {Q : Option Value → Shared → Prop} (hTy : s.TypeIs (.ref z) "zip") (h : ∀ E', wpAny (model prog w) A.in1 (Builtin.«zip.__next__» ⟨[.ref z], []⟩) (fun fin s' => ∃ v, fin = .done (.ret v) ∧ Q (some v) s') E' s) : wpAny (model prog w) A (pyNext (.ref z)) Q E s := by
  unfold pyNext
  exact wpAny_bind (wpAny_attempt (wpAny_callSpecial?_slot (name := Str.ofString "__next__") hTy F.slot_zip_next
    (wpAny_call_entry F.slot_zip_next hTy F.entry_zip_next
      (wpAny_mono (h _) (fun fin s' ⟨v, e, q⟩ => ⟨v, e, wpAny_pure q⟩) fun _ _ e => e) (F.args_zip_next_1 _))))
end
end LwO

set_option Elab.async false
set_option linter.all false
set_option maxRecDepth 100000
set_option maxHeartbeats 4000000
namespace LwO
open PySem PySem.W
open LzO (zip_no_len zip_no_hint)
section
variable {prog : Program} {w : World} {A : Around} {n : Nat} {E : Value → Shared → Prop} {s : Shared}
theorem pyEnd_of {z : Addr} {Q : Option Value → Shared → Prop} (hTy : s.TypeIs (.ref z) "zip")
    (h : ∀ (Q' : PySem.Fin → Shared → Prop) (E' : Value → Shared → Prop), (∀ h' e, (∃ o, h'.get? e = some o ∧ o.cls = .type "StopIteration") → Q none { s with heap := h' } → E' (.ref e) { s with heap := h' }) → wpAny (model prog w) A.in1 (Builtin.«zip.__next__» ⟨[.ref z], []⟩) Q' E' s) : wpAny (model prog w) A (pyNext (.ref z)) Q E s := by
  unfold pyNext
  refine wpAny_bind (wpAny_attempt (wpAny_callSpecial?_slot (name := Str.ofString "__next__") hTy F.slot_zip_next
    (wpAny_call_entry F.slot_zip_next hTy F.entry_zip_next (h _ _ fun h' e he q => ?_) (F.args_zip_next_1 _))))
  obtain ⟨o, ho, hc⟩ := he
  exact wpAny_bind (wpAny_isInstance (T := "StopIteration") (b := true) ⟨o, ho, hc⟩ isSubtype_stop (wpAny_pure q))
end
section
variable {prog : Program} {w : World} {A : Around} {n : Nat}
/-- the zip's cells ahead of turn i -/
def ZSt (ss : List (Strm prog w A n)) (z TI TO : Addr) (base : Nat) (i : Nat) (h : Heap) : Prop := h.get? TI = some { cls := .type "tuple", data := .seq (ss.map fun x => Value.ref x.it).toArray } ∧ AllAt ss i h ∧
  ((IsZip h z TI TO .none ∧ ∃ arr, arr.size = ss.length ∧ h.get? TO = some (tupO arr)) ∨ ∃ (T : Nat) (f : Bool) (oT : Obj), IsZipHeld h z TI TO T f ∧ h.get? T = some oT ∧ base ≤ T)
/-- what has been made -/
structure Got (ss : List (Strm prog w A n)) (base i : Nat) (h : Heap) (as : List Addr) : Prop where
  len : as.length = i
  asc : as.Pairwise fun a b : Nat => a < b
  rng : ∀ a ∈ as, base ≤ (a : Nat)
  at_ : ∀ j a, as[j]? = some a → ∃ xs : List Value, xs.length = ss.length ∧ (∀ (k : Nat) (x : Strm prog w A n) (v : Value), ss[k]? = some x → xs[k]? = some v → x.P j v) ∧ h.get? a = some (tupO xs.toArray)
theorem Got.moved {ss : List (Strm prog w A n)} {base i : Nat} {h h' : Heap} {as : List Addr} (g : Got ss base i h as) (hk : ∀ b : Nat, base ≤ b → ∀ o, h.get? b = some o → h'.get? b = some o) : Got ss base i h' as :=
  ⟨g.len, g.asc, g.rng, fun j a e => by
    obtain ⟨xs, p, q, t⟩ := g.at_ j a e
    exact ⟨xs, p, q, hk a (g.rng a (List.mem_of_getElem? e)) _ t⟩⟩
theorem Got.push {ss : List (Strm prog w A n)} {base i : Nat} {h h' : Heap} {as : List Addr} {xs : List Value} (g : Got ss base i h as) (hb : base ≤ h.objs.size) (hk : ∀ b : Nat, base ≤ b → ∀ o, h.get? b = some o → h'.get? b = some o) (lx : xs.length = ss.length)
    (px : ∀ (k : Nat) (x : Strm prog w A n) (v : Value), ss[k]? = some x → xs[k]? = some v → x.P i v) (ht : h'.get? h.objs.size = some (tupO xs.toArray)) : Got ss base (i + 1) h' (as ++ [h.objs.size]) := by
  have g' := g.moved (h' := h') hk
  refine ⟨by rw [List.length_append, g.len]; rfl, ?_, fun a m => ?_, fun j a e => ?_⟩
  · rw [List.pairwise_append]
    refine ⟨g.asc, List.pairwise_singleton _ _, fun a ha b hb' => ?_⟩
    rw [List.mem_singleton.mp hb']
    obtain ⟨j, hj⟩ := List.mem_iff_getElem?.mp ha
    obtain ⟨_, _, _, t⟩ := g.at_ j a hj
    exact Heap.lt_size t
  · rcases List.mem_append.mp m with m | m
    · exact g'.rng a m
    · rw [List.mem_singleton.mp m]
      exact hb
  · by_cases hj : j < as.length
    · rw [List.getElem?_append_left hj] at e
      exact g'.at_ j a e
    · rw [List.getElem?_append_right (by omega)] at e
      have hj2 : j - as.length = 0 := by
        have := (List.getElem?_eq_some_iff.mp e).1
        simp at this
        exact this
      rw [hj2] at e
      cases e
      have : j = i := by have := g.len; omega
      subst this
      exact ⟨xs, lx, px, ht⟩
end
section
variable {prog : Program} {w : World} {A : Around} {R : Result → Shared → Prop} {z TI TO S : Addr} {n base : Nat}
/-- how the zip's own cells lie -/
structure Lay (ss : List (Strm prog w A n)) (z TI TO : Addr) : Prop where
  ne : ss ≠ []
  ap : Apart ss
  zo : Off ss z
  to : Off ss TO
  ti : ∀ x ∈ ss, TI ≠ x.it
  tz : TO ≠ z
  Tz : TI ≠ z
  TT : TI ≠ TO
theorem zl_loop (ss : List (Strm prog w A.in1.in1 n)) (Z : Lay ss z TI TO) (hl : ss.length ≤ sizeLine) (hn : n ≤ sizeLine) (res : Value) (Sz : S ≠ z) (STI : S ≠ TI) (STO : S ≠ TO) (So : Off ss S)
    (bz : (z : Nat) < base) (bO : (TO : Nat) < base) (bi : ∀ x ∈ ss, (x.it : Nat) < base) (bS : (S : Nat) < base) :
    ∀ (k i : Nat) (s : Shared) (as : List Addr) (c : Nat), n - i = k → i ≤ n → ZSt ss z TI TO base i s.heap → s.heap.get? S = some { cls := .type "list", dict := none, data := .seq (as.map Value.ref).toArray c, slots := #[] } → Got ss base i s.heap as → base ≤ s.heap.objs.size →
    (∀ (h' : Heap) (tk : Nat) (as' : List Addr) (c' : Nat), (∀ b o, b ≠ S → b ≠ z → b ≠ TO → (∀ x ∈ ss, b ≠ x.it) → s.heap.get? b = some o → h'.get? b = some o) → h'.get? S = some { cls := .type "list", dict := none, data := .seq (as'.map Value.ref).toArray c', slots := #[] } → Got ss base n h' as' → R (.ok (.ret res)) { s with heap := h', toks := tk }) →
    codeAny (model prog w) A (.builtin "list.extend.loop" ⟨[.ref S, .ref z, res], []⟩) R s := by
  have up : ∀ {b : Nat}, base ≤ b → (b : Addr) ≠ z ∧ (b : Addr) ≠ TO ∧ (∀ x ∈ ss, (b : Addr) ≠ x.it) ∧ (b : Addr) ≠ S := fun {b} hb =>
    ⟨Nat.ne_of_gt (Nat.lt_of_lt_of_le bz hb), Nat.ne_of_gt (Nat.lt_of_lt_of_le bO hb), fun x hx => Nat.ne_of_gt (Nat.lt_of_lt_of_le (bi x hx) hb), Nat.ne_of_gt (Nat.lt_of_lt_of_le bS hb)⟩
  intro k
  induction k with
  | zero =>
    intro i s as c hk hi hst hS hg hb hR
    have hin : i = n := by omega
    subst hin
    refine codeAny_builtin F.entry_extend_loop ?_
    rw [Around.under_plainId F.plain_extend_loop _]
    show wpAny _ A.in1 (pyNext (.ref z) >>= _) _ _ s
    refine wpAny_bind ?_
    have fin : ∀ h', (∀ c o, c ≠ z → (∀ x ∈ ss, c ≠ x.it) → s.heap.get? c = some o → h'.get? c = some o) → R (.ok (.ret res)) { s with heap := h' } := fun h' hk => by
      refine hR h' s.toks as c (fun b o c1 c2 c3 c4 e => hk b o c2 c4 e) (hk S _ Sz So.it hS) (hg.moved fun b hb' o e => ?_)
      obtain ⟨u1, u2, u3, u4⟩ := up hb'
      exact hk _ o u1 u3 e
    obtain ⟨hTI, st, zz⟩ := hst
    obtain ⟨x, ss', rfl⟩ : ∃ x ss', ss = x :: ss' := by
      cases ss with
      | nil => exact absurd rfl Z.ne
      | cons x l => exact ⟨x, l, rfl⟩
    rcases zz with ⟨hz, arr, ha, hTO⟩ | ⟨T, f, oT, hz, hT, hTS⟩
    · exact pyEnd_of ⟨_, hz, rfl⟩ fun Q' E' hE => end_free Z.zo hz hTI st fun h' e hk he => hE h' e he (wpAny_pure (fin h' fun c o c1 c2 e => hk c o c1 (c2 x List.mem_cons_self) e))
    · exact pyEnd_of ⟨_, hz, rfl⟩ fun Q' E' hE => end_held Z.zo hz hT hTI st fun h' e hk he => hE h' e he (wpAny_pure (fin h' fun c o c1 c2 e => hk c o c1 (c2 x List.mem_cons_self) e))
  | succ k ih =>
    intro i s as c hk hi hst hS hg hb hR
    have hlt : i < n := by omega
    refine codeAny_builtin F.entry_extend_loop ?_
    rw [Around.under_plainId F.plain_extend_loop _]
    show wpAny _ A.in1 (pyNext (.ref z) >>= _) _ _ s
    refine wpAny_bind ?_
    have lz : as.length = i := hg.len
    have go : ∀ (h' : Heap) (tk : Nat), ZSt ss z TI TO base (i + 1) h' → (∀ b o, b ≠ z → b ≠ TO → (∀ x ∈ ss, b ≠ x.it) → s.heap.get? b = some o → h'.get? b = some o) → Got ss base (i + 1) h' (as ++ [s.heap.objs.size]) → h'.objs.size = s.heap.objs.size + 1 →
        wpAny (model prog w) A.in1 (do updateSeq S (·.push (.ref s.heap.objs.size)); again (.builtin "list.extend.loop" ⟨[.ref S, .ref z, res], []⟩))
          (fun fin s' => match fin with | .done f => R (.ok f) s' | .again c' => c'.quiet = true ∧ codeAny (model prog w) A c' R s') (fun e s' => R (.error e) s') { s with heap := h', toks := tk } := by
      intro h' tk zs hk' hg' hsz
      have hS' := hk' S _ Sz STO So.it hS
      have e0 : (h'.update S (Obj.mapSeq (·.push (Value.ref s.heap.objs.size)))).get? S = some { cls := .type "list", dict := none, data := .seq ((as.map Value.ref).toArray.push (Value.ref s.heap.objs.size)) _, slots := #[] } := Heap.get?_update_self _ hS' rfl
      rw [show (as.map Value.ref).toArray.push (Value.ref s.heap.objs.size) = ((as ++ [s.heap.objs.size]).map Value.ref).toArray by simp] at e0
      have oth : ∀ b o, b ≠ S → h'.get? b = some o → (h'.update S (Obj.mapSeq (·.push (.ref s.heap.objs.size)))).get? b = some o := fun b o hb' e => (Heap.get?_update_other _ _ (Ne.symm hb')).trans e
      have zs' : ZSt ss z TI TO base (i + 1) (h'.update S (Obj.mapSeq (·.push (.ref s.heap.objs.size)))) := by
        obtain ⟨hTI, st, zz⟩ := zs
        refine ⟨oth _ _ (Ne.symm STI) hTI, st.frame fun x hx b hb' o e => oth b o (fun q => So x hx (q ▸ hb')) e, ?_⟩
        rcases zz with ⟨hz, arr, ha, hTO⟩ | ⟨T, f, oT, hz, hT, hTb⟩
        · exact .inl ⟨oth _ _ (Ne.symm Sz) hz, arr, ha, oth _ _ (Ne.symm STO) hTO⟩
        · exact .inr ⟨T, f, oT, oth _ _ (Ne.symm Sz) hz, oth _ _ (up hTb).2.2.2 hT, hTb⟩
      refine wpAny_bind (wpAny_updateSeq hS' rfl (wpAny_pure ⟨plainId_quiet F.plain_extend_loop _, ih (i + 1) _ (as ++ [s.heap.objs.size]) _ (by omega) hlt zs' e0 (hg'.moved fun b hb' o e => oth b o (up hb').2.2.2 e) (by show base ≤ (h'.update S _).objs.size; rw [Heap.size_update]; omega) fun h2 tk2 as2 c2 hk2 hS2 hg2 =>
        hR h2 tk2 as2 c2 (fun b o c1 c2' c3 c4 e => hk2 b o c1 c2' c3 c4 (oth b o c1 (hk' b o c2' c3 c4 e))) hS2 hg2⟩) ?_ ?_)
      · show (as.map Value.ref).toArray.size ≤ sizeLine
        simp only [List.size_toArray, List.length_map]; omega
      · show ((as.map Value.ref).toArray.push _).size ≤ sizeLine + 1
        simp only [Array.size_push, List.size_toArray, List.length_map]; omega
    obtain ⟨hTI, st, ⟨hz, arr, ha, hTO⟩ | ⟨T, f, oT, hz, hT, hTS⟩⟩ := hst
    · refine pyNext_of ⟨_, hz, rfl⟩ fun E' => next_free Z.ne Z.ap Z.zo Z.to Z.tz hz hTI hTO ha st hlt hl fun xs h' tk lx px b1' d1 b5 _ b6 hk' => ?_
      refine go h' tk ⟨hk' _ _ Z.Tz Z.TT Z.ti hTI, d1, .inr ⟨_, false, _, b1', b5, hb⟩⟩ hk' (hg.push hb (fun b hb' o e => ?_) lx px b5) b6
      obtain ⟨u1, u2, u3, u4⟩ := up hb'
      exact hk' _ o u1 u2 u3 e
    · refine pyNext_of ⟨_, hz, rfl⟩ fun E' => next_held Z.ne Z.ap Z.zo hz hT hTI st hlt hl fun xs h' tk lx px b1' d1 b5 b6 hk' => ?_
      obtain ⟨v1, v2, v3, v4⟩ := up hTS
      refine go h' tk ⟨hk' _ _ Z.Tz Z.ti hTI, d1, .inr ⟨_, true, oT, b1', hk' _ _ v1 v3 hT, hTS⟩⟩ (fun b o c1 _ c3 e => hk' b o c1 c3 e) (hg.push hb (fun b hb' o e => ?_) lx px b5) b6
      obtain ⟨u1, u2, u3, u4⟩ := up hb'
      exact hk' _ o u1 u3 e
end
end LwO

set_option Elab.async false
set_option linter.all false
set_option maxRecDepth 100000
set_option maxHeartbeats 4000000
namespace LwO
open PySem PySem.W
open LzO (zip_no_len zip_no_hint)
section
variable {prog : Program} {w : World} {A : Around} {R : Result → Shared → Prop} {s : Shared} {z TI TO S : Addr} {n : Nat}
/-- what list(z) needs of the zip at z -/
structure Zs (ss : List (Strm prog w A n)) (z TI TO : Addr) (h : Heap) : Prop where
  lay : Lay ss z TI TO
  few : ss.length ≤ sizeLine
  le : n ≤ sizeLine
  hz : IsZip h z TI TO .none
  hT : h.get? TI = some { cls := .type "tuple", data := .seq (ss.map fun x => Value.ref x.it).toArray }
  hO : ∃ arr, arr.size = ss.length ∧ h.get? TO = some (tupO arr)
  st : AllAt ss 0 h
  lo : ∀ x ∈ ss, ∀ b ∈ x.fp, (b : Nat) < h.objs.size
theorem Zs.keep {ss : List (Strm prog w A n)} {h h' : Heap} (q : Zs ss z TI TO h) (hs : h.objs.size ≤ h'.objs.size) (hk : ∀ b o, h.get? b = some o → h'.get? b = some o) : Zs ss z TI TO h' :=
  ⟨q.lay, q.few, q.le, hk _ _ q.hz, hk _ _ q.hT, let ⟨arr, a, e⟩ := q.hO; ⟨arr, a, hk _ _ e⟩, q.st.frame fun x _ b _ o e => hk b o e, fun x hx b m => Nat.lt_of_lt_of_le (q.lo x hx b m) hs⟩
theorem zl_extend {ss : List (Strm prog w A.in1.in1 n)} (q : Zs ss z TI TO s.heap) (res : Value) (c₀ : Nat) (hS : s.heap.get? S = some { cls := .type "list", data := .seq #[] c₀ }) (So : Off ss S)
    (hR : ∀ (h' : Heap) (tk : Nat) (as' : List Addr) (c' : Nat), (∀ b o, b ≠ S → b ≠ z → b ≠ TO → (∀ x ∈ ss, b ≠ x.it) → s.heap.get? b = some o → h'.get? b = some o) → h'.get? S = some { cls := .type "list", dict := none, data := .seq (as'.map Value.ref).toArray c', slots := #[] } → Got ss s.heap.objs.size n h' as' → R (.ok (.ret res)) { s with heap := h', toks := tk }) :
    wpAny (model prog w) A.in1 (Builtin.List.listExtendWith (.ref S) (.ref z) res)
      (fun fin s' => match fin with | .done f => R (.ok f) s' | .again c' => c'.quiet = true ∧ codeAny (model prog w) A c' R s') (fun e s' => R (.error e) s') s := by
  have hTz : s.TypeIs (.ref z) "zip" := ⟨_, q.hz, rfl⟩
  obtain ⟨arr, ha, hO⟩ := q.hO
  have Sz : S ≠ z := fun e => by rw [e, q.hz] at hS; simp at hS
  have STI : S ≠ TI := fun e => by rw [e, q.hT] at hS; simp at hS
  have STO : S ≠ TO := fun e => by rw [e, hO] at hS; simp at hS
  unfold Builtin.List.listExtendWith
  refine wpAny_bind (wpAny_typeOf hTz ?_)
  have h1 : Builtin.List.listSameRef (.ref S) (.ref z) = false := by simp [Builtin.List.listSameRef, Sz]
  have h2 : (Value.type "zip" == Value.type "list") = false := by decide
  have h3 : (Value.type "zip" == Value.type "tuple") = false := by decide
  simp only [h1, h2, h3, Bool.or_false, Bool.false_eq_true, if_false]
  refine wpAny_bind (wpAny_pyIter_zip q.hz ?_)
  refine wpAny_bind (wpAny_holding ?_)
  unfold Builtin.List.listLengthHint
  refine wpAny_bind (wpAny_specialOf hTz zip_no_len ?_)
  show wpAny _ A.in1 (specialOf (Value.ref z) (Str.ofString "__length_hint__") >>= _) _ _ _
  refine wpAny_bind (wpAny_specialOf hTz zip_no_hint ?_)
  refine wpAny_pure ?_
  show wpAny _ A.in1 (rule "list.extend.makes-room" >>= fun _ => Builtin.List.listTouch (.ref S) >>= fun _ =>
    again (.builtin "list.extend.loop" ⟨[.ref S, .ref z, res], []⟩)) _ _ _
  refine wpAny_bind (wpAny_rule ?_)
  refine wpAny_bind ?_
  show wpAny _ A.in1 (updateSeq S (·.push .none) >>= fun _ => updateSeq S (·.pop)) _ _ _
  refine wpAny_bind (wpAny_updateSeq hS rfl ?_)
  have hS₂ := Heap.get?_update_self (Obj.mapSeq (·.push Value.none)) hS rfl
  refine wpAny_updateSeq (hz := by seq_fits) hS₂ rfl ?_
  have hS₃ := Heap.get?_update_self (Obj.mapSeq (·.pop)) hS₂ rfl
  have oth : ∀ b o, b ≠ S → s.heap.get? b = some o → ((s.heap.update S (Obj.mapSeq (·.push Value.none))).update S (Obj.mapSeq (·.pop))).get? b = some o :=
    fun b o hb e => (Heap.get?_update_other _ _ (Ne.symm hb)).trans ((Heap.get?_update_other _ _ (Ne.symm hb)).trans e)
  have hsz : ((s.heap.update S (Obj.mapSeq (·.push Value.none))).update S (Obj.mapSeq (·.pop))).objs.size = s.heap.objs.size := by rw [Heap.size_update, Heap.size_update]
  refine wpAny_pure ⟨plainId_quiet F.plain_extend_loop _, zl_loop (base := s.heap.objs.size) ss q.lay q.few q.le res Sz STI STO So (Heap.lt_size q.hz) (Heap.lt_size hO) (fun x hx => q.lo x hx _ x.mem) (Heap.lt_size hS) n 0 _ [] _ rfl (Nat.zero_le _) ?_ hS₃
    ⟨rfl, .nil, fun _ m => (List.not_mem_nil m).elim, fun j a e => (nomatch (show ([] : List Addr)[j]? = some a from e))⟩ (by show s.heap.objs.size ≤ _; rw [hsz]; exact Nat.le_refl _) fun h' tk as' c' hk hS' hg => ?_⟩
  · exact ⟨oth _ _ (Ne.symm STI) q.hT, q.st.frame fun x hx b m o e => oth b o (fun y => So x hx (y ▸ m)) e, .inl ⟨oth _ _ (Ne.symm Sz) q.hz, arr, ha, oth _ _ (Ne.symm STO) hO⟩⟩
  · exact hR h' tk as' c' (fun b o c1 c2 c3 c4 e => hk b o c1 c2 c3 c4 (oth b o c1 e)) hS' hg
theorem zl_init {ss : List (Strm prog w A.in1.in1 n)} (q : Zs ss z TI TO s.heap) (hS : s.heap.get? S = some { cls := .type "list", data := .seq #[] }) (So : Off ss S)
    (hR : ∀ (h' : Heap) (tk : Nat) (as' : List Addr) (c' : Nat), (∀ b o, b ≠ S → b ≠ z → b ≠ TO → (∀ x ∈ ss, b ≠ x.it) → s.heap.get? b = some o → h'.get? b = some o) → h'.get? S = some { cls := .type "list", dict := none, data := .seq (as'.map Value.ref).toArray c', slots := #[] } → Got ss s.heap.objs.size n h' as' → R (.ok (.ret .none)) { s with heap := h', toks := tk }) :
    wpAny (model prog w) A.in1 (Builtin.«list.__init__» ⟨[.ref S, .ref z], []⟩)
      (fun fin s' => match fin with | .done f => R (.ok f) s' | .again c' => c'.quiet = true ∧ codeAny (model prog w) A c' R s') (fun e s' => R (.error e) s') s := by
  show wpAny _ A.in1 (do let old ← Builtin.List.listItems (.ref S); Builtin.List.listUpdate (.ref S) (fun _ => #[]); letGo old.toList.reverse; Builtin.List.listExtendWith (.ref S) (.ref z) .none) _ _ s
  refine wpAny_bind ?_
  unfold Builtin.List.listItems
  refine wpAny_bind (wpAny_seqItems hS rfl (wpAny_pure ?_))
  show wpAny _ A.in1 (updateSeq S (fun _ => #[]) >>= fun _ => letGo (#[] : Array Value).toList.reverse >>= fun _ => Builtin.List.listExtendWith (.ref S) (.ref z) .none) _ _ s
  refine wpAny_bind (wpAny_updateSeq hS rfl ?_)
  have hS₂ := Heap.get?_update_self (Obj.mapSeq (fun _ => (#[] : Array Value))) hS rfl
  have oth : ∀ b o, b ≠ S → s.heap.get? b = some o → (s.heap.update S (Obj.mapSeq (fun _ => (#[] : Array Value)))).get? b = some o :=
    fun b o hb e => (Heap.get?_update_other _ _ (Ne.symm hb)).trans e
  refine wpAny_bind (wpAny_letGo ?_)
  obtain ⟨arr, ha, hO⟩ := q.hO
  have Sz : S ≠ z := fun e => by rw [e, q.hz] at hS; simp at hS
  have STI : S ≠ TI := fun e => by rw [e, q.hT] at hS; simp at hS
  have STO : S ≠ TO := fun e => by rw [e, hO] at hS; simp at hS
  have hsz : (s.heap.update S (Obj.mapSeq (fun _ => (#[] : Array Value)))).objs.size = s.heap.objs.size := by rw [Heap.size_update]
  have q' : Zs ss z TI TO (s.heap.update S (Obj.mapSeq (fun _ => (#[] : Array Value)))) :=
    ⟨q.lay, q.few, q.le, oth _ _ (Ne.symm Sz) q.hz, oth _ _ (Ne.symm STI) q.hT, ⟨arr, ha, oth _ _ (Ne.symm STO) hO⟩, q.st.frame fun x hx b m o e => oth b o (fun y => So x hx (y ▸ m)) e, fun x hx b m => by rw [hsz]; exact q.lo x hx b m⟩
  refine zl_extend (s := { s with heap := s.heap.update S (Obj.mapSeq (fun _ => (#[] : Array Value))) }) q' .none _ hS₂ So fun h' tk as' c' hk hS' hg => ?_
  rw [show (Shared.heap { s with heap := s.heap.update S (Obj.mapSeq (fun _ => (#[] : Array Value))) }).objs.size = s.heap.objs.size from hsz] at hg
  exact hR h' tk as' c' (fun b o c1 c2 c3 c4 e => hk b o c1 c2 c3 c4 (oth b o c1 e)) hS' hg
end
section
variable {prog : Program} {w : World} {A : Around} {E : Value → Shared → Prop} {s : Shared} {z TI TO : Addr} {n : Nat}
theorem zl_call {Q : Value → Shared → Prop} {ss : List (Strm prog w A.in1.in1.in1 n)} (q : Zs ss z TI TO s.heap)
    (hQ : ∀ (h' : Heap) (tk : Nat) (as' : List Addr) (c' : Nat), (∀ b o, b ≠ z → b ≠ TO → (∀ x ∈ ss, b ≠ x.it) → s.heap.get? b = some o → h'.get? b = some o) → h'.get? s.heap.objs.size = some { cls := .type "list", dict := none, data := .seq (as'.map Value.ref).toArray c', slots := #[] } → Got ss (s.heap.objs.size + 1) n h' as' → Q (.ref s.heap.objs.size) { s with heap := h', toks := tk }) :
    wpAny (model prog w) A (call (.type "list") [.ref z]) Q E s := by
  refine callType_codes (Q₁ := fun obj s₁ => obj = .ref s.heap.objs.size ∧ s₁ = { s with heap := s.heap.push { cls := .type "list", data := .seq #[] } }) F.called_list (F.typeCall_list_1 _) F.entry_list_init
    (code_list_new _ ⟨rfl, rfl⟩) fun obj s₁ h₁ => ?_
  obtain ⟨rfl, rfl⟩ := h₁
  have hS : (s.heap.push { cls := .type "list", data := .seq #[] }).get? s.heap.objs.size = some { cls := .type "list", data := .seq #[] } := Heap.get?_push_size _ rfl
  have hsz : (s.heap.push { cls := .type "list", data := .seq #[] }).objs.size = s.heap.objs.size + 1 := Heap.size_push ..
  have q' := q.keep (h' := s.heap.push { cls := .type "list", data := .seq #[] }) (by rw [hsz]; exact Nat.le_succ _) fun b o e => Heap.get?_push_of_some _ e
  refine ⟨⟨_, hS, rfl⟩, F.args_list_init_2 _ _, zl_init (A := A.in1) (s := { s with heap := s.heap.push { cls := .type "list", data := .seq #[] } }) q' hS (fun x hx m => Nat.lt_irrefl _ (q.lo x hx _ m)) fun h' tk as' c' hk hS' hg => ?_⟩
  refine ⟨rfl, hQ h' tk as' c' (fun b o c2 c3 c4 e => hk b o (Nat.ne_of_lt (Heap.lt_size e)) c2 c3 c4 (Heap.get?_push_of_some _ e)) hS' ?_⟩
  rw [show (Shared.heap { s with heap := s.heap.push { cls := .type "list", data := .seq #[] } }).objs.size = s.heap.objs.size + 1 from hsz] at hg
  exact hg
end
end LwO

set_option Elab.async false
set_option linter.all false
set_option maxRecDepth 100000
set_option maxHeartbeats 8000000
namespace LwO
open PySem PySem.W
theorem neA (n a b : Nat) (h : a ≠ b) : n + a ≠ n + b := fun e => h (Nat.add_left_cancel e)
theorem ltA (n a b : Nat) (h : a < b) : n + a < n + b := Nat.add_lt_add_left h n
theorem nmA {n x : Nat} (a b : Nat) (h : x < n) (ab : a ≠ b) : n + a ∉ [n + b, x] := by
  simp only [List.mem_cons, List.not_mem_nil, or_false, not_or]
  exact ⟨neA n a b ab, fun e => by omega⟩
abbrev zwT6 (h : Heap) (o1 o2 o3 o4 o5 o6 : Obj) : Heap := ((((((h.push o1).push o2).push o3).push o4).push o5).push o6).push (tupO #[.ref h.objs.size, .ref (h.push o1).objs.size, .ref ((h.push o1).push o2).objs.size, .ref (((h.push o1).push o2).push o3).objs.size, .ref ((((h.push o1).push o2).push o3).push o4).objs.size, .ref (((((h.push o1).push o2).push o3).push o4).push o5).objs.size])
abbrev zwO6 (h : Heap) (o1 o2 o3 o4 o5 o6 : Obj) : Heap := (zwT6 h o1 o2 o3 o4 o5 o6).push (tupO #[.none, .none, .none, .none, .none, .none])
abbrev zwZ6 (h : Heap) (o1 o2 o3 o4 o5 o6 : Obj) : Heap := (zwO6 h o1 o2 o3 o4 o5 o6).push { cls := .type "zip", data := .fields #[.none, .bool false, .bool false, .ref ((((((h.push o1).push o2).push o3).push o4).push o5).push o6).objs.size, .ref (zwT6 h o1 o2 o3 o4 o5 o6).objs.size] }
theorem zwType6 (a1 a2 a3 a4 a5 a6 : Value) : checkTypeCall "zip" ⟨[a1, a2, a3, a4, a5, a6], []⟩ = pure () := by kernel_rfl
theorem zwNew6 (a1 a2 a3 a4 a5 a6 : Value) : checkBuiltinCall "zip.__new__" ⟨[.type "zip", a1, a2, a3, a4, a5, a6], []⟩ = pure () := by kernel_rfl
theorem zwInit6 (obj a1 a2 a3 a4 a5 a6 : Value) : argsOk "object.__init__" ⟨[obj, a1, a2, a3, a4, a5, a6], []⟩ := by unfold argsOk; kernel_rfl
theorem zwMeets6 {v1 v2 v3 v4 v5 v6 : Value} {o1 o2 o3 o4 o5 o6 : Obj} {H1 H2 H3 H4 H5 H6 : Heap → Prop} (B1 : Begins v1 o1 H1) (B2 : Begins v2 o2 H2) (B3 : Begins v3 o3 H3) (B4 : Begins v4 o4 H4) (B5 : Begins v5 o5 H5) (B6 : Begins v6 o6 H6) :
    Meets (Builtin.«zip.__new__» ⟨[.type "zip", v1, v2, v3, v4, v5, v6], []⟩) (fun _ R s => (H1 s.heap ∧ H2 s.heap ∧ H3 s.heap ∧ H4 s.heap ∧ H5 s.heap ∧ H6 s.heap) ∧
      R (.ok (.ret (.ref (zwO6 s.heap o1 o2 o3 o4 o5 o6).objs.size))) { s with heap := zwZ6 s.heap o1 o2 o3 o4 o5 o6 }) :=
  .of_wp fun prog w A R s h => by
    obtain ⟨hp, g, d, tk, os⟩ := s; obtain ⟨⟨h1, h2, h3, h4, h5, h6⟩, h⟩ := h
    have hsub := sub_zip
    have q1 : ∀ {A' : Around} {E : Value → Shared → Prop} {Q : Value → Shared → Prop}, Q (.ref hp.objs.size) ⟨(hp.push o1), g, d, tk, os⟩ → wpAny (model prog w) A' (pyIter v1) Q E ⟨hp, g, d, tk, os⟩ :=
      fun q => B1.iter prog w _ _ ⟨hp, g, d, tk, os⟩ _ (B1.keeps _ _ h1 fun b o' e => e) q
    have q2 : ∀ {A' : Around} {E : Value → Shared → Prop} {Q : Value → Shared → Prop}, Q (.ref (hp.push o1).objs.size) ⟨((hp.push o1).push o2), g, d, tk, os⟩ → wpAny (model prog w) A' (pyIter v2) Q E ⟨(hp.push o1), g, d, tk, os⟩ :=
      fun q => B2.iter prog w _ _ ⟨(hp.push o1), g, d, tk, os⟩ _ (B2.keeps _ _ h2 fun b o' e => (Heap.get?_push_of_some _ e)) q
    have q3 : ∀ {A' : Around} {E : Value → Shared → Prop} {Q : Value → Shared → Prop}, Q (.ref ((hp.push o1).push o2).objs.size) ⟨(((hp.push o1).push o2).push o3), g, d, tk, os⟩ → wpAny (model prog w) A' (pyIter v3) Q E ⟨((hp.push o1).push o2), g, d, tk, os⟩ :=
      fun q => B3.iter prog w _ _ ⟨((hp.push o1).push o2), g, d, tk, os⟩ _ (B3.keeps _ _ h3 fun b o' e => (Heap.get?_push_of_some _ (Heap.get?_push_of_some _ e))) q
    have q4 : ∀ {A' : Around} {E : Value → Shared → Prop} {Q : Value → Shared → Prop}, Q (.ref (((hp.push o1).push o2).push o3).objs.size) ⟨((((hp.push o1).push o2).push o3).push o4), g, d, tk, os⟩ → wpAny (model prog w) A' (pyIter v4) Q E ⟨(((hp.push o1).push o2).push o3), g, d, tk, os⟩ :=
      fun q => B4.iter prog w _ _ ⟨(((hp.push o1).push o2).push o3), g, d, tk, os⟩ _ (B4.keeps _ _ h4 fun b o' e => (Heap.get?_push_of_some _ (Heap.get?_push_of_some _ (Heap.get?_push_of_some _ e)))) q
    have q5 : ∀ {A' : Around} {E : Value → Shared → Prop} {Q : Value → Shared → Prop}, Q (.ref ((((hp.push o1).push o2).push o3).push o4).objs.size) ⟨(((((hp.push o1).push o2).push o3).push o4).push o5), g, d, tk, os⟩ → wpAny (model prog w) A' (pyIter v5) Q E ⟨((((hp.push o1).push o2).push o3).push o4), g, d, tk, os⟩ :=
      fun q => B5.iter prog w _ _ ⟨((((hp.push o1).push o2).push o3).push o4), g, d, tk, os⟩ _ (B5.keeps _ _ h5 fun b o' e => (Heap.get?_push_of_some _ (Heap.get?_push_of_some _ (Heap.get?_push_of_some _ (Heap.get?_push_of_some _ e))))) q
    have q6 : ∀ {A' : Around} {E : Value → Shared → Prop} {Q : Value → Shared → Prop}, Q (.ref (((((hp.push o1).push o2).push o3).push o4).push o5).objs.size) ⟨((((((hp.push o1).push o2).push o3).push o4).push o5).push o6), g, d, tk, os⟩ → wpAny (model prog w) A' (pyIter v6) Q E ⟨(((((hp.push o1).push o2).push o3).push o4).push o5), g, d, tk, os⟩ :=
      fun q => B6.iter prog w _ _ ⟨(((((hp.push o1).push o2).push o3).push o4).push o5), g, d, tk, os⟩ _ (B6.keeps _ _ h6 fun b o' e => (Heap.get?_push_of_some _ (Heap.get?_push_of_some _ (Heap.get?_push_of_some _ (Heap.get?_push_of_some _ (Heap.get?_push_of_some _ e)))))) q
    wp_walk using q1, q2, q3, q4, q5, q6
    exact ⟨_, rfl, h⟩
section
variable {prog : Program} {w : World} {A : Around} {E : Value → Shared → Prop} {s : Shared}
theorem zwBegins6 {v1 v2 v3 v4 v5 v6 : Value} {o1 o2 o3 o4 o5 o6 : Obj} {H1 H2 H3 H4 H5 H6 : Heap → Prop} {Q : Value → Shared → Prop} (B1 : Begins v1 o1 H1) (B2 : Begins v2 o2 H2) (B3 : Begins v3 o3 H3) (B4 : Begins v4 o4 H4) (B5 : Begins v5 o5 H5) (B6 : Begins v6 o6 H6) (h1 : H1 s.heap) (h2 : H2 s.heap) (h3 : H3 s.heap) (h4 : H4 s.heap) (h5 : H5 s.heap) (h6 : H6 s.heap)
    (h : ∀ h', IsZip h' (s.heap.objs.size + 8) (s.heap.objs.size + 6) (s.heap.objs.size + 7) .none → h'.get? (s.heap.objs.size + 6) = some (tupO #[Value.ref s.heap.objs.size, Value.ref (s.heap.objs.size + 1), Value.ref (s.heap.objs.size + 2), Value.ref (s.heap.objs.size + 3), Value.ref (s.heap.objs.size + 4), Value.ref (s.heap.objs.size + 5)]) →
      h'.get? (s.heap.objs.size + 7) = some (tupO #[.none, .none, .none, .none, .none, .none]) → h'.get? s.heap.objs.size = some o1 → h'.get? (s.heap.objs.size + 1) = some o2 → h'.get? (s.heap.objs.size + 2) = some o3 → h'.get? (s.heap.objs.size + 3) = some o4 → h'.get? (s.heap.objs.size + 4) = some o5 → h'.get? (s.heap.objs.size + 5) = some o6 → h'.objs.size = s.heap.objs.size + 9 →
      (∀ c o, s.heap.get? c = some o → h'.get? c = some o) → Q (.ref (s.heap.objs.size + 8)) { s with heap := h' }) :
    wpAny (model prog w) A (call (.type "zip") [v1, v2, v3, v4, v5, v6]) Q E s := by
  refine callType_new F.called_zip (by decide) (zwType6 _ _ _ _ _ _) (zwNew6 _ _ _ _ _ _) (fun obj => zwInit6 obj _ _ _ _ _ _) F.entry_zip_new
    (zwMeets6 B1 B2 B3 B4 B5 B6) ⟨⟨h1, h2, h3, h4, h5, h6⟩, ?_⟩
  have z1 : (s.heap.push o1).objs.size = s.heap.objs.size + 1 := by rw [Heap.size_push]
  have z2 : ((s.heap.push o1).push o2).objs.size = s.heap.objs.size + 2 := by rw [Heap.size_push, z1]
  have z3 : (((s.heap.push o1).push o2).push o3).objs.size = s.heap.objs.size + 3 := by rw [Heap.size_push, z2]
  have z4 : ((((s.heap.push o1).push o2).push o3).push o4).objs.size = s.heap.objs.size + 4 := by rw [Heap.size_push, z3]
  have z5 : (((((s.heap.push o1).push o2).push o3).push o4).push o5).objs.size = s.heap.objs.size + 5 := by rw [Heap.size_push, z4]
  have z6 : ((((((s.heap.push o1).push o2).push o3).push o4).push o5).push o6).objs.size = s.heap.objs.size + 6 := by rw [Heap.size_push, z5]
  have zT : (zwT6 s.heap o1 o2 o3 o4 o5 o6).objs.size = s.heap.objs.size + 7 := by rw [Heap.size_push, z6]
  have zO : (zwO6 s.heap o1 o2 o3 o4 o5 o6).objs.size = s.heap.objs.size + 8 := by rw [Heap.size_push, zT]
  have zZ : (zwZ6 s.heap o1 o2 o3 o4 o5 o6).objs.size = s.heap.objs.size + 9 := by rw [Heap.size_push, zO]
  have gZ : (zwZ6 s.heap o1 o2 o3 o4 o5 o6).get? (zwO6 s.heap o1 o2 o3 o4 o5 o6).objs.size = some { cls := .type "zip", data := .fields #[.none, .bool false, .bool false, .ref ((((((s.heap.push o1).push o2).push o3).push o4).push o5).push o6).objs.size, .ref (zwT6 s.heap o1 o2 o3 o4 o5 o6).objs.size] } := Heap.get?_push_size _ rfl
  have gO : (zwZ6 s.heap o1 o2 o3 o4 o5 o6).get? (zwT6 s.heap o1 o2 o3 o4 o5 o6).objs.size = some (tupO #[.none, .none, .none, .none, .none, .none]) := Heap.get?_push_of_some _ (Heap.get?_push_size _ rfl)
  have gT : (zwZ6 s.heap o1 o2 o3 o4 o5 o6).get? ((((((s.heap.push o1).push o2).push o3).push o4).push o5).push o6).objs.size = some (tupO #[.ref s.heap.objs.size, .ref (s.heap.push o1).objs.size, .ref ((s.heap.push o1).push o2).objs.size, .ref (((s.heap.push o1).push o2).push o3).objs.size, .ref ((((s.heap.push o1).push o2).push o3).push o4).objs.size, .ref (((((s.heap.push o1).push o2).push o3).push o4).push o5).objs.size]) := Heap.get?_push_of_some _ (Heap.get?_push_of_some _ (Heap.get?_push_size _ rfl))
  have g1 : (zwZ6 s.heap o1 o2 o3 o4 o5 o6).get? s.heap.objs.size = some o1 := (Heap.get?_push_of_some _ (Heap.get?_push_of_some _ (Heap.get?_push_of_some _ (Heap.get?_push_of_some _ (Heap.get?_push_of_some _ (Heap.get?_push_of_some _ (Heap.get?_push_of_some _ (Heap.get?_push_of_some _ (Heap.get?_push_size _ B1.free)))))))))
  have g2 : (zwZ6 s.heap o1 o2 o3 o4 o5 o6).get? (s.heap.push o1).objs.size = some o2 := (Heap.get?_push_of_some _ (Heap.get?_push_of_some _ (Heap.get?_push_of_some _ (Heap.get?_push_of_some _ (Heap.get?_push_of_some _ (Heap.get?_push_of_some _ (Heap.get?_push_of_some _ (Heap.get?_push_size _ B2.free))))))))
  have g3 : (zwZ6 s.heap o1 o2 o3 o4 o5 o6).get? ((s.heap.push o1).push o2).objs.size = some o3 := (Heap.get?_push_of_some _ (Heap.get?_push_of_some _ (Heap.get?_push_of_some _ (Heap.get?_push_of_some _ (Heap.get?_push_of_some _ (Heap.get?_push_of_some _ (Heap.get?_push_size _ B3.free)))))))
  have g4 : (zwZ6 s.heap o1 o2 o3 o4 o5 o6).get? (((s.heap.push o1).push o2).push o3).objs.size = some o4 := (Heap.get?_push_of_some _ (Heap.get?_push_of_some _ (Heap.get?_push_of_some _ (Heap.get?_push_of_some _ (Heap.get?_push_of_some _ (Heap.get?_push_size _ B4.free))))))
  have g5 : (zwZ6 s.heap o1 o2 o3 o4 o5 o6).get? ((((s.heap.push o1).push o2).push o3).push o4).objs.size = some o5 := (Heap.get?_push_of_some _ (Heap.get?_push_of_some _ (Heap.get?_push_of_some _ (Heap.get?_push_of_some _ (Heap.get?_push_size _ B5.free)))))
  have g6 : (zwZ6 s.heap o1 o2 o3 o4 o5 o6).get? (((((s.heap.push o1).push o2).push o3).push o4).push o5).objs.size = some o6 := (Heap.get?_push_of_some _ (Heap.get?_push_of_some _ (Heap.get?_push_of_some _ (Heap.get?_push_size _ B6.free))))
  rw [zO, zT, z6] at gZ
  rw [zT] at gO
  rw [z6, z5, z4, z3, z2, z1] at gT
  rw [z1] at g2
  rw [z2] at g3
  rw [z3] at g4
  rw [z4] at g5
  rw [z5] at g6
  show _ ∧ _
  rw [zO]
  exact ⟨⟨_, gZ, rfl⟩, h _ gZ gT gO g1 g2 g3 g4 g5 g6 zZ fun c o e => (Heap.get?_push_of_some _ (Heap.get?_push_of_some _ (Heap.get?_push_of_some _ (Heap.get?_push_of_some _ (Heap.get?_push_of_some _ (Heap.get?_push_of_some _ (Heap.get?_push_of_some _ (Heap.get?_push_of_some _ (Heap.get?_push_of_some _ e)))))))))⟩
end
end LwO
namespace L2
open PySem PySem.Spec PyProof.Rows
section
variable {X : Cx}
/-- list(zip(..)) of 6 lists or tuples of one length -/
def tListZip6 (K : PySem.W.Frag) (ta : TA) : TE := fun σ H Q => ta σ H fun vs H1 => ∃ (x1 x2 x3 x4 x5 x6 : Addr) (y1 y2 y3 y4 y5 y6 : List V) (n : Nat), vs = [.ref x1, .ref x2, .ref x3, .ref x4, .ref x5, .ref x6] ∧ (SqL K H1 x1 y1 ∨ SqT K H1 x1 y1) ∧ (SqL K H1 x2 y2 ∨ SqT K H1 x2 y2) ∧ (SqL K H1 x3 y3 ∨ SqT K H1 x3 y3) ∧ (SqL K H1 x4 y4 ∨ SqT K H1 x4 y4) ∧ (SqL K H1 x5 y5 ∨ SqT K H1 x5 y5) ∧ (SqL K H1 x6 y6 ∨ SqT K H1 x6 y6) ∧ y1.length = n ∧ y2.length = n ∧ y3.length = n ∧ y4.length = n ∧ y5.length = n ∧ y6.length = n ∧
  ∀ (H' : Hp) (p : Addr) (ts : List Addr) (zs : List (List V)), Same H1 H' → H1 p = none → H' p = some (.lst (ts.map V.ref)) → Paired (fun (t : Addr) (z : List V) => H' t = some (.tup z)) ts zs → zs.length = n →
    (∀ (j : Nat) (z : List V), zs[j]? = some z → ∃ u1 u2 u3 u4 u5 u6 : V, z = [u1, u2, u3, u4, u5, u6] ∧ y1[j]? = some u1 ∧ y2[j]? = some u2 ∧ y3[j]? = some u3 ∧ y4[j]? = some u4 ∧ y5[j]? = some u5 ∧ y6[j]? = some u6) → Q (.ref p) H'
theorem pe_listZip6 {b1 b2 b3 b4 b5 b6 : Expr} {ta : TA} {p p2 pos pos2 : Pos} (hc : X.calm = true) (hg : Gl X "list") (hm : X.mg "list" = none) (hg2 : Gl X "zip") (hm2 : X.mg "zip" = none) (ha : PA X [b1, b2, b3, b4, b5, b6] ta)
    (hs : starEach [b1, b2, b3, b4, b5, b6] X.env = (false, eval b1 X.env) :: starEach [b2, b3, b4, b5, b6] X.env := by rfl) (hpl : (backTo pos2 (starEach [b2, b3, b4, b5, b6] X.env)).any (·.1) = false := by rfl)
    (na : starEach [.Call (.Name "zip" p2) [b1, b2, b3, b4, b5, b6] [] pos2] X.env = (false, eval (.Call (.Name "zip" p2) [b1, b2, b3, b4, b5, b6] [] pos2) X.env) :: starEach [] X.env := by rfl) :
    PE X (.Call (.Name "list" p) [.Call (.Name "zip" p2) [b1, b2, b3, b4, b5, b6] [] pos2] [] pos) (tListZip6 X.K ta) := by
  refine ⟨fun pins s σ H Q I h => ?_⟩
  refine Call_ (ld_blt I hg hm boot_list (PyProof.Rows.callWith_type1 (args_cons ?_ na) na))
  refine Call_ (ld_blt I hg2 hm2 PyProof.Rows.boot_zip (PyProof.Rows.callWith_type1 (thn (ha.run pos2 pins s σ H _ I h) fun us s1 ⟨vs, H1, I1, r1, q1⟩ => ?_) hs hpl))
  obtain ⟨x1, x2, x3, x4, x5, x6, y1, y2, y3, y4, y5, y6, n, ex, hx1, hx2, hx3, hx4, hx5, hx6, l1, l2, l3, l4, l5, l6, q⟩ := q1
  subst ex
  obtain rfl : us = [Value.ref x1, Value.ref x2, Value.ref x3, Value.ref x4, Value.ref x5, Value.ref x6] := by
    cases r1 with
    | cons c1 d1 =>
      cases d1 with
      | cons c2 d2 =>
        cases d2 with
        | cons c3 d3 =>
          cases d3 with
          | cons c4 d4 =>
            cases d4 with
            | cons c5 d5 =>
              cases d5 with
              | cons c6 d6 =>
                cases d6
                cases c1
                cases c2
                cases c3
                cases c4
                cases c5
                cases c6
                rfl
  clear r1
  obtain ⟨o1, Hh1, i1, v1, w1, B1, hb1, lt1, dr1⟩ := src_of I1 hx1
  obtain ⟨o2, Hh2, i2, v2, w2, B2, hb2, lt2, dr2⟩ := src_of I1 hx2
  obtain ⟨o3, Hh3, i3, v3, w3, B3, hb3, lt3, dr3⟩ := src_of I1 hx3
  obtain ⟨o4, Hh4, i4, v4, w4, B4, hb4, lt4, dr4⟩ := src_of I1 hx4
  obtain ⟨o5, Hh5, i5, v5, w5, B5, hb5, lt5, dr5⟩ := src_of I1 hx5
  obtain ⟨o6, Hh6, i6, v6, w6, B6, hb6, lt6, dr6⟩ := src_of I1 hx6
  refine LwO.zwBegins6 B1 B2 B3 B4 B5 B6 hb1 hb2 hb3 hb4 hb5 hb6 fun h' hz hTI hTO g1 g2 g3 g4 g5 g6 hsz hk => args_nil ?_
  have I2 : Inv X pins σ H1 { s1 with heap := h' } := I1.kept (t' := s1.toks) hk
  have hd := I1.ok.hd hc
  obtain ⟨St1, D1, st1⟩ := dr1 X.A.in1.in1.in1 hd s1.heap.objs.size (Nat.ne_of_lt lt1)
  have e1 : i1.length = n := by rw [← v1.length]; exact l1
  rw [e1] at D1
  obtain ⟨St2, D2, st2⟩ := dr2 X.A.in1.in1.in1 hd (s1.heap.objs.size + 1) (Nat.ne_of_lt (Nat.lt_of_lt_of_le lt2 (Nat.le_add_right _ _)))
  have e2 : i2.length = n := by rw [← v2.length]; exact l2
  rw [e2] at D2
  obtain ⟨St3, D3, st3⟩ := dr3 X.A.in1.in1.in1 hd (s1.heap.objs.size + 2) (Nat.ne_of_lt (Nat.lt_of_lt_of_le lt3 (Nat.le_add_right _ _)))
  have e3 : i3.length = n := by rw [← v3.length]; exact l3
  rw [e3] at D3
  obtain ⟨St4, D4, st4⟩ := dr4 X.A.in1.in1.in1 hd (s1.heap.objs.size + 3) (Nat.ne_of_lt (Nat.lt_of_lt_of_le lt4 (Nat.le_add_right _ _)))
  have e4 : i4.length = n := by rw [← v4.length]; exact l4
  rw [e4] at D4
  obtain ⟨St5, D5, st5⟩ := dr5 X.A.in1.in1.in1 hd (s1.heap.objs.size + 4) (Nat.ne_of_lt (Nat.lt_of_lt_of_le lt5 (Nat.le_add_right _ _)))
  have e5 : i5.length = n := by rw [← v5.length]; exact l5
  rw [e5] at D5
  obtain ⟨St6, D6, st6⟩ := dr6 X.A.in1.in1.in1 hd (s1.heap.objs.size + 5) (Nat.ne_of_lt (Nat.lt_of_lt_of_le lt6 (Nat.le_add_right _ _)))
  have e6 : i6.length = n := by rw [← v6.length]; exact l6
  rw [e6] at D6
  have sLe : n ≤ sizeLine := by rw [← l1]; exact w1
  let S1 : LwO.Strm X.prog X.w X.A.in1.in1.in1 n := ⟨s1.heap.objs.size, [s1.heap.objs.size, x1], fun j v => i1[j]? = some v, St1, D1, List.mem_cons_self⟩
  let S2 : LwO.Strm X.prog X.w X.A.in1.in1.in1 n := ⟨(s1.heap.objs.size + 1), [(s1.heap.objs.size + 1), x2], fun j v => i2[j]? = some v, St2, D2, List.mem_cons_self⟩
  let S3 : LwO.Strm X.prog X.w X.A.in1.in1.in1 n := ⟨(s1.heap.objs.size + 2), [(s1.heap.objs.size + 2), x3], fun j v => i3[j]? = some v, St3, D3, List.mem_cons_self⟩
  let S4 : LwO.Strm X.prog X.w X.A.in1.in1.in1 n := ⟨(s1.heap.objs.size + 3), [(s1.heap.objs.size + 3), x4], fun j v => i4[j]? = some v, St4, D4, List.mem_cons_self⟩
  let S5 : LwO.Strm X.prog X.w X.A.in1.in1.in1 n := ⟨(s1.heap.objs.size + 4), [(s1.heap.objs.size + 4), x5], fun j v => i5[j]? = some v, St5, D5, List.mem_cons_self⟩
  let S6 : LwO.Strm X.prog X.w X.A.in1.in1.in1 n := ⟨(s1.heap.objs.size + 5), [(s1.heap.objs.size + 5), x6], fun j v => i6[j]? = some v, St6, D6, List.mem_cons_self⟩
  have ap : LwO.Apart [S1, S2, S3, S4, S5, S6] := by
    refine .cons (fun y hy => by
      simp only [List.mem_cons, List.not_mem_nil, or_false] at hy
      rcases hy with rfl | rfl | rfl | rfl | rfl
      · exact ⟨show s1.heap.objs.size ∉ [(s1.heap.objs.size + 1), x2] from LwO.nmA 0 1 lt2 (by decide), show (s1.heap.objs.size + 1) ∉ [s1.heap.objs.size, x1] from LwO.nmA 1 0 lt1 (by decide)⟩
      · exact ⟨show s1.heap.objs.size ∉ [(s1.heap.objs.size + 2), x3] from LwO.nmA 0 2 lt3 (by decide), show (s1.heap.objs.size + 2) ∉ [s1.heap.objs.size, x1] from LwO.nmA 2 0 lt1 (by decide)⟩
      · exact ⟨show s1.heap.objs.size ∉ [(s1.heap.objs.size + 3), x4] from LwO.nmA 0 3 lt4 (by decide), show (s1.heap.objs.size + 3) ∉ [s1.heap.objs.size, x1] from LwO.nmA 3 0 lt1 (by decide)⟩
      · exact ⟨show s1.heap.objs.size ∉ [(s1.heap.objs.size + 4), x5] from LwO.nmA 0 4 lt5 (by decide), show (s1.heap.objs.size + 4) ∉ [s1.heap.objs.size, x1] from LwO.nmA 4 0 lt1 (by decide)⟩
      · exact ⟨show s1.heap.objs.size ∉ [(s1.heap.objs.size + 5), x6] from LwO.nmA 0 5 lt6 (by decide), show (s1.heap.objs.size + 5) ∉ [s1.heap.objs.size, x1] from LwO.nmA 5 0 lt1 (by decide)⟩) ?_
    refine .cons (fun y hy => by
      simp only [List.mem_cons, List.not_mem_nil, or_false] at hy
      rcases hy with rfl | rfl | rfl | rfl
      · exact ⟨show (s1.heap.objs.size + 1) ∉ [(s1.heap.objs.size + 2), x3] from LwO.nmA 1 2 lt3 (by decide), show (s1.heap.objs.size + 2) ∉ [(s1.heap.objs.size + 1), x2] from LwO.nmA 2 1 lt2 (by decide)⟩
      · exact ⟨show (s1.heap.objs.size + 1) ∉ [(s1.heap.objs.size + 3), x4] from LwO.nmA 1 3 lt4 (by decide), show (s1.heap.objs.size + 3) ∉ [(s1.heap.objs.size + 1), x2] from LwO.nmA 3 1 lt2 (by decide)⟩
      · exact ⟨show (s1.heap.objs.size + 1) ∉ [(s1.heap.objs.size + 4), x5] from LwO.nmA 1 4 lt5 (by decide), show (s1.heap.objs.size + 4) ∉ [(s1.heap.objs.size + 1), x2] from LwO.nmA 4 1 lt2 (by decide)⟩
      · exact ⟨show (s1.heap.objs.size + 1) ∉ [(s1.heap.objs.size + 5), x6] from LwO.nmA 1 5 lt6 (by decide), show (s1.heap.objs.size + 5) ∉ [(s1.heap.objs.size + 1), x2] from LwO.nmA 5 1 lt2 (by decide)⟩) ?_
    refine .cons (fun y hy => by
      simp only [List.mem_cons, List.not_mem_nil, or_false] at hy
      rcases hy with rfl | rfl | rfl
      · exact ⟨show (s1.heap.objs.size + 2) ∉ [(s1.heap.objs.size + 3), x4] from LwO.nmA 2 3 lt4 (by decide), show (s1.heap.objs.size + 3) ∉ [(s1.heap.objs.size + 2), x3] from LwO.nmA 3 2 lt3 (by decide)⟩
      · exact ⟨show (s1.heap.objs.size + 2) ∉ [(s1.heap.objs.size + 4), x5] from LwO.nmA 2 4 lt5 (by decide), show (s1.heap.objs.size + 4) ∉ [(s1.heap.objs.size + 2), x3] from LwO.nmA 4 2 lt3 (by decide)⟩
      · exact ⟨show (s1.heap.objs.size + 2) ∉ [(s1.heap.objs.size + 5), x6] from LwO.nmA 2 5 lt6 (by decide), show (s1.heap.objs.size + 5) ∉ [(s1.heap.objs.size + 2), x3] from LwO.nmA 5 2 lt3 (by decide)⟩) ?_
    refine .cons (fun y hy => by
      simp only [List.mem_cons, List.not_mem_nil, or_false] at hy
      rcases hy with rfl | rfl
      · exact ⟨show (s1.heap.objs.size + 3) ∉ [(s1.heap.objs.size + 4), x5] from LwO.nmA 3 4 lt5 (by decide), show (s1.heap.objs.size + 4) ∉ [(s1.heap.objs.size + 3), x4] from LwO.nmA 4 3 lt4 (by decide)⟩
      · exact ⟨show (s1.heap.objs.size + 3) ∉ [(s1.heap.objs.size + 5), x6] from LwO.nmA 3 5 lt6 (by decide), show (s1.heap.objs.size + 5) ∉ [(s1.heap.objs.size + 3), x4] from LwO.nmA 5 3 lt4 (by decide)⟩) ?_
    refine .cons (fun y hy => by
      simp only [List.mem_cons, List.not_mem_nil, or_false] at hy
      rcases hy with rfl
      · exact ⟨show (s1.heap.objs.size + 4) ∉ [(s1.heap.objs.size + 5), x6] from LwO.nmA 4 5 lt6 (by decide), show (s1.heap.objs.size + 5) ∉ [(s1.heap.objs.size + 4), x5] from LwO.nmA 5 4 lt5 (by decide)⟩) ?_
    refine .cons (fun y hy => by cases hy) ?_
    exact .nil
  have zo : LwO.Off [S1, S2, S3, S4, S5, S6] (s1.heap.objs.size + 8) := by
    intro y hy
    simp only [List.mem_cons, List.not_mem_nil, or_false] at hy
    rcases hy with rfl | rfl | rfl | rfl | rfl | rfl
    · exact show s1.heap.objs.size + 8 ∉ [s1.heap.objs.size, x1] from LwO.nmA 8 0 lt1 (by decide)
    · exact show s1.heap.objs.size + 8 ∉ [(s1.heap.objs.size + 1), x2] from LwO.nmA 8 1 lt2 (by decide)
    · exact show s1.heap.objs.size + 8 ∉ [(s1.heap.objs.size + 2), x3] from LwO.nmA 8 2 lt3 (by decide)
    · exact show s1.heap.objs.size + 8 ∉ [(s1.heap.objs.size + 3), x4] from LwO.nmA 8 3 lt4 (by decide)
    · exact show s1.heap.objs.size + 8 ∉ [(s1.heap.objs.size + 4), x5] from LwO.nmA 8 4 lt5 (by decide)
    · exact show s1.heap.objs.size + 8 ∉ [(s1.heap.objs.size + 5), x6] from LwO.nmA 8 5 lt6 (by decide)
  have to : LwO.Off [S1, S2, S3, S4, S5, S6] (s1.heap.objs.size + 7) := by
    intro y hy
    simp only [List.mem_cons, List.not_mem_nil, or_false] at hy
    rcases hy with rfl | rfl | rfl | rfl | rfl | rfl
    · exact show s1.heap.objs.size + 7 ∉ [s1.heap.objs.size, x1] from LwO.nmA 7 0 lt1 (by decide)
    · exact show s1.heap.objs.size + 7 ∉ [(s1.heap.objs.size + 1), x2] from LwO.nmA 7 1 lt2 (by decide)
    · exact show s1.heap.objs.size + 7 ∉ [(s1.heap.objs.size + 2), x3] from LwO.nmA 7 2 lt3 (by decide)
    · exact show s1.heap.objs.size + 7 ∉ [(s1.heap.objs.size + 3), x4] from LwO.nmA 7 3 lt4 (by decide)
    · exact show s1.heap.objs.size + 7 ∉ [(s1.heap.objs.size + 4), x5] from LwO.nmA 7 4 lt5 (by decide)
    · exact show s1.heap.objs.size + 7 ∉ [(s1.heap.objs.size + 5), x6] from LwO.nmA 7 5 lt6 (by decide)
  have ti : ∀ y ∈ [S1, S2, S3, S4, S5, S6], s1.heap.objs.size + 6 ≠ y.it := by
    intro y hy
    simp only [List.mem_cons, List.not_mem_nil, or_false] at hy
    rcases hy with rfl | rfl | rfl | rfl | rfl | rfl
    · exact show (s1.heap.objs.size + 6 : Nat) ≠ s1.heap.objs.size from LwO.neA _ 6 0 (by decide)
    · exact show (s1.heap.objs.size + 6 : Nat) ≠ (s1.heap.objs.size + 1) from LwO.neA _ 6 1 (by decide)
    · exact show (s1.heap.objs.size + 6 : Nat) ≠ (s1.heap.objs.size + 2) from LwO.neA _ 6 2 (by decide)
    · exact show (s1.heap.objs.size + 6 : Nat) ≠ (s1.heap.objs.size + 3) from LwO.neA _ 6 3 (by decide)
    · exact show (s1.heap.objs.size + 6 : Nat) ≠ (s1.heap.objs.size + 4) from LwO.neA _ 6 4 (by decide)
    · exact show (s1.heap.objs.size + 6 : Nat) ≠ (s1.heap.objs.size + 5) from LwO.neA _ 6 5 (by decide)
  have stt : LwO.AllAt [S1, S2, S3, S4, S5, S6] 0 h' := by
    intro y hy
    simp only [List.mem_cons, List.not_mem_nil, or_false] at hy
    rcases hy with rfl | rfl | rfl | rfl | rfl | rfl
    · exact st1 _ g1 (B1.keeps _ _ hb1 hk)
    · exact st2 _ g2 (B2.keeps _ _ hb2 hk)
    · exact st3 _ g3 (B3.keeps _ _ hb3 hk)
    · exact st4 _ g4 (B4.keeps _ _ hb4 hk)
    · exact st5 _ g5 (B5.keeps _ _ hb5 hk)
    · exact st6 _ g6 (B6.keeps _ _ hb6 hk)
  have lo : ∀ y ∈ [S1, S2, S3, S4, S5, S6], ∀ b ∈ y.fp, (b : Nat) < h'.objs.size := by
    intro y hy
    simp only [List.mem_cons, List.not_mem_nil, or_false] at hy
    rcases hy with rfl | rfl | rfl | rfl | rfl | rfl
    · intro b hb
      rw [hsz]
      rcases List.mem_cons.mp hb with rfl | hb
      · exact show (s1.heap.objs.size : Nat) < s1.heap.objs.size + 9 from LwO.ltA _ 0 9 (by decide)
      · rw [List.mem_singleton.mp hb]; exact Nat.lt_of_lt_of_le lt1 (Nat.le_add_right _ _)
    · intro b hb
      rw [hsz]
      rcases List.mem_cons.mp hb with rfl | hb
      · exact show ((s1.heap.objs.size + 1) : Nat) < s1.heap.objs.size + 9 from LwO.ltA _ 1 9 (by decide)
      · rw [List.mem_singleton.mp hb]; exact Nat.lt_of_lt_of_le lt2 (Nat.le_add_right _ _)
    · intro b hb
      rw [hsz]
      rcases List.mem_cons.mp hb with rfl | hb
      · exact show ((s1.heap.objs.size + 2) : Nat) < s1.heap.objs.size + 9 from LwO.ltA _ 2 9 (by decide)
      · rw [List.mem_singleton.mp hb]; exact Nat.lt_of_lt_of_le lt3 (Nat.le_add_right _ _)
    · intro b hb
      rw [hsz]
      rcases List.mem_cons.mp hb with rfl | hb
      · exact show ((s1.heap.objs.size + 3) : Nat) < s1.heap.objs.size + 9 from LwO.ltA _ 3 9 (by decide)
      · rw [List.mem_singleton.mp hb]; exact Nat.lt_of_lt_of_le lt4 (Nat.le_add_right _ _)
    · intro b hb
      rw [hsz]
      rcases List.mem_cons.mp hb with rfl | hb
      · exact show ((s1.heap.objs.size + 4) : Nat) < s1.heap.objs.size + 9 from LwO.ltA _ 4 9 (by decide)
      · rw [List.mem_singleton.mp hb]; exact Nat.lt_of_lt_of_le lt5 (Nat.le_add_right _ _)
    · intro b hb
      rw [hsz]
      rcases List.mem_cons.mp hb with rfl | hb
      · exact show ((s1.heap.objs.size + 5) : Nat) < s1.heap.objs.size + 9 from LwO.ltA _ 5 9 (by decide)
      · rw [List.mem_singleton.mp hb]; exact Nat.lt_of_lt_of_le lt6 (Nat.le_add_right _ _)
  have zq : LwO.Zs [S1, S2, S3, S4, S5, S6] (s1.heap.objs.size + 8) (s1.heap.objs.size + 6) (s1.heap.objs.size + 7) h' :=
    ⟨⟨List.cons_ne_nil _ _, ap, zo, to, ti, show (s1.heap.objs.size + 7 : Nat) ≠ s1.heap.objs.size + 8 from LwO.neA _ 7 8 (by decide), show (s1.heap.objs.size + 6 : Nat) ≠ s1.heap.objs.size + 8 from LwO.neA _ 6 8 (by decide), show (s1.heap.objs.size + 6 : Nat) ≠ s1.heap.objs.size + 7 from LwO.neA _ 6 7 (by decide)⟩, (by show 6 ≤ sizeLine; decide), sLe, hz, hTI, ⟨_, rfl, hTO⟩, stt, lo⟩
  refine LwO.zl_call (s := { s1 with heap := h' }) zq fun h2 tk as c' hk2 hS hg => ?_
  have hp5 : (Shared.heap { s1 with heap := h' }).objs.size = s1.heap.objs.size + 9 := hsz
  have low : ∀ c o, s1.heap.get? c = some o → h2.get? c = some o := fun c o e => by
    have lc := Heap.lt_size e
    refine hk2 c o (Nat.ne_of_lt (Nat.lt_of_lt_of_le lc (Nat.le_add_right _ _))) (Nat.ne_of_lt (Nat.lt_of_lt_of_le lc (Nat.le_add_right _ _))) (fun y hy => ?_) (hk c o e)
    simp only [List.mem_cons, List.not_mem_nil, or_false] at hy
    rcases hy with rfl | rfl | rfl | rfl | rfl | rfl
    · exact Nat.ne_of_lt lc
    · exact Nat.ne_of_lt (Nat.lt_of_lt_of_le lc (Nat.le_add_right _ _))
    · exact Nat.ne_of_lt (Nat.lt_of_lt_of_le lc (Nat.le_add_right _ _))
    · exact Nat.ne_of_lt (Nat.lt_of_lt_of_le lc (Nat.le_add_right _ _))
    · exact Nat.ne_of_lt (Nat.lt_of_lt_of_le lc (Nat.le_add_right _ _))
    · exact Nat.ne_of_lt (Nat.lt_of_lt_of_le lc (Nat.le_add_right _ _))
  have las : as.length = n := hg.len
  have hgt : ∀ (j : Nat) (a : Addr), as[j]? = some a → ∃ u1 u2 u3 u4 u5 u6 : Value, i1[j]? = some u1 ∧ i2[j]? = some u2 ∧ i3[j]? = some u3 ∧ i4[j]? = some u4 ∧ i5[j]? = some u5 ∧ i6[j]? = some u6 ∧ h2.get? a = some (LwO.tupO #[u1, u2, u3, u4, u5, u6]) := fun j a e => by
    obtain ⟨xs, lx, px, t⟩ := hg.at_ j a e
    have lx : xs.length = 6 := lx
    obtain ⟨u1, u2, u3, u4, u5, u6, rfl⟩ : ∃ u1 u2 u3 u4 u5 u6 : Value, xs = [u1, u2, u3, u4, u5, u6] := by
      match xs, lx with
      | [u1, u2, u3, u4, u5, u6], _ => exact ⟨u1, u2, u3, u4, u5, u6, rfl⟩
    exact ⟨u1, u2, u3, u4, u5, u6, px 0 S1 u1 rfl rfl, px 1 S2 u2 rfl rfl, px 2 S3 u3 rfl rfl, px 3 S4 u4 rfl rfl, px 4 S5 u5 rfl rfl, px 5 S6 u6 rfl rfl, t⟩
  let zs : List (List V) := (List.range n).map fun j => [(y1[j]?).getD .non, (y2[j]?).getD .non, (y3[j]?).getD .non, (y4[j]?).getD .non, (y5[j]?).getD .non, (y6[j]?).getD .non]
  have lz : zs.length = n := by show ((List.range n).map _).length = n; simp
  have hzs : ∀ (j : Nat) (z : List V), zs[j]? = some z → ∃ u1 u2 u3 u4 u5 u6 : V, z = [u1, u2, u3, u4, u5, u6] ∧ y1[j]? = some u1 ∧ y2[j]? = some u2 ∧ y3[j]? = some u3 ∧ y4[j]? = some u4 ∧ y5[j]? = some u5 ∧ y6[j]? = some u6 := fun j z e => by
    have hj : j < n := lz ▸ (List.getElem?_eq_some_iff.mp e).1
    have e' : zs[j]? = some [(y1[j]?).getD .non, (y2[j]?).getD .non, (y3[j]?).getD .non, (y4[j]?).getD .non, (y5[j]?).getD .non, (y6[j]?).getD .non] := by show ((List.range n).map _)[j]? = _; rw [List.getElem?_map, List.getElem?_range hj]; rfl
    rw [e] at e'; cases e'
    have g1 : j < y1.length := by rw [l1]; exact hj
    have f1 : y1[j]? = some y1[j] := List.getElem?_eq_getElem g1
    have g2 : j < y2.length := by rw [l2]; exact hj
    have f2 : y2[j]? = some y2[j] := List.getElem?_eq_getElem g2
    have g3 : j < y3.length := by rw [l3]; exact hj
    have f3 : y3[j]? = some y3[j] := List.getElem?_eq_getElem g3
    have g4 : j < y4.length := by rw [l4]; exact hj
    have f4 : y4[j]? = some y4[j] := List.getElem?_eq_getElem g4
    have g5 : j < y5.length := by rw [l5]; exact hj
    have f5 : y5[j]? = some y5[j] := List.getElem?_eq_getElem g5
    have g6 : j < y6.length := by rw [l6]; exact hj
    have f6 : y6[j]? = some y6[j] := List.getElem?_eq_getElem g6
    exact ⟨y1[j], y2[j], y3[j], y4[j], y5[j], y6[j], by rw [f1, f2, f3, f4, f5, f6]; rfl, f1, f2, f3, f4, f5, f6⟩
  obtain ⟨H', k1, k2, k3, k4, k5, I3⟩ := tups_laid (tk := tk) (zs := zs) I1 (by rw [las]; exact sLe) (by rw [las, lz]) (show s1.heap.objs.size ≤ (Shared.heap { s1 with heap := h' }).objs.size by rw [hp5]; exact Nat.le_add_right _ _) low hS
    (hg.asc.imp fun {a b} l => Nat.ne_of_lt l) (fun a m => Nat.le_trans (by rw [hp5]; exact Nat.le_trans (Nat.le_add_right _ _) (Nat.le_succ _)) (hg.rng a m)) (fun m => Nat.not_succ_le_self _ (hg.rng _ m)) fun j a z ja jz => by
      obtain ⟨a1, a2, a3, a4, a5, a6, b1, b2, b3, b4, b5, b6, t⟩ := hgt j a ja
      obtain ⟨u1, u2, u3, u4, u5, u6, rfl, f1, f2, f3, f4, f5, f6⟩ := hzs j z jz
      obtain ⟨t1, ht1, rt1⟩ := v1.get f1
      rw [b1] at ht1; cases ht1
      obtain ⟨t2, ht2, rt2⟩ := v2.get f2
      rw [b2] at ht2; cases ht2
      obtain ⟨t3, ht3, rt3⟩ := v3.get f3
      rw [b3] at ht3; cases ht3
      obtain ⟨t4, ht4, rt4⟩ := v4.get f4
      rw [b4] at ht4; cases ht4
      obtain ⟨t5, ht5, rt5⟩ := v5.get f5
      rw [b5] at ht5; cases ht5
      obtain ⟨t6, ht6, rt6⟩ := v6.get f6
      rw [b6] at ht6; cases ht6
      exact ⟨by show 6 ≤ sizeLine; decide, [a1, a2, a3, a4, a5, a6], .cons rt1 (.cons rt2 (.cons rt3 (.cons rt4 (.cons rt5 (.cons rt6 .nil))))), t⟩
  exact ⟨.ref _, H', I3, rfl, q H' _ as zs k1 k2 k4 k5 lz hzs⟩
end
end L2

set_option Elab.async false
set_option linter.all false
set_option maxRecDepth 100000
set_option maxHeartbeats 4000000
/-! sorted(set(xs)), xs a list of ints -/
namespace L2
open PySem PySem.Spec PyProof.Rows
section
variable {P : Program} {w : World} {A : Around} {E : Value → Shared → Prop} {s : Shared}
/-- a new, empty set -/
abbrev set0 (w : World) : Obj := { cls := .type "set", dict := none, data := .set #[] 0 (.fresh 0 0 (!w.params.followText "set-order")) }
theorem call_set_listI {l : Addr} {items : Array Value} (ns : List Int) {Q : Value → Shared → Prop} (hh : A.handled = none) (hl : s.heap.IsList l items) (hit : IntsAre items.toList ns) (hb : ns.length + 1 < scanBound)
    (h : ∀ (h' : Heap) (tk c : Nat), SetR w h' s.heap.objs.size (fun j => decide (j ∈ ns)) c → c ≤ ns.length → (∀ b o, s.heap.get? b = some o → h'.get? b = some o) → Q (.ref s.heap.objs.size) { s with heap := h', toks := tk }) :
    wpAny (model P w) A (call (.type "set") [.ref l]) Q E s := by
  have hisz : items.size = ns.length := by
    have q := IntsAre.length hit
    rwa [Array.length_toList] at q
  obtain ⟨c, tl, hmro⟩ := F.called_set.mro
  have hmade := F.called_set.made
  have hsub := F.called_set.sub
  refine wpAny_call (codeAny_of_tree ?_)
  show wpAny _ _ (callAny (.type "set") _) _ _ _
  refine wpAny_pure ⟨Code.quiet_builtin _ (by decide +kernel), codeAny_builtin F.entry_type_call ?_⟩
  rw [Around.under_plain (weight_type_call_type "set" [.ref l] []) rfl]
  have h1 := F.called_set.notType
  have h2 := F.called_set.canCreate
  have hct := F.typeCall_set_1 (.ref l)
  repeat (any_goals (first | assumption | wp_step))
  refine codeAny_mono (code_set_led1 (.ref l) (E := E) (Q₁ := fun obj s₁ => obj = .ref s.heap.objs.size ∧ s₁ = { s with heap := s.heap.push (set0 w) }) ⟨rfl, rfl⟩) fun r s₁ hr => ?_
  cases r with
  | error e => exact hr
  | ok fl =>
    cases fl with
    | ret obj =>
      obtain ⟨rfl, rfl⟩ := hr
      have hS : (s.heap.push (set0 w)).get? s.heap.objs.size = some (set0 w) := Heap.get?_push_size _ rfl
      have hT : Shared.TypeIs { s with heap := s.heap.push (set0 w) } (.ref s.heap.objs.size) "set" := ⟨_, hS, rfl⟩
      have hli := F.called_set.init.lookup
      have hbi := F.called_set.init.bind (.ref s.heap.objs.size)
      repeat (any_goals (first | assumption | wp_step))
      refine codeAny_mono (codeAny_call_builtin (R := wants (fun r s₂ => r = .none ∧ ∃ h' tk c, s₂ = { s with heap := h', toks := tk } ∧ SetR w h' s.heap.objs.size (fun j => decide (j ∈ ns)) c ∧ c ≤ ns.length ∧
          (∀ b o, s.heap.get? b = some o → h'.get? b = some o)) E) F.called_set.init.plain F.entry_set_init (check_set_init_1 hT ?_)) fun r₂ s₂ hr₂ => ?_
      · obtain ⟨⟨ocls, odict, odata, oslots⟩, hol, hcl, nl, hdl⟩ := hl
        simp only at hcl hdl
        subst hcl; subst hdl
        have hol' : (s.heap.push (set0 w)).get? l = some { cls := .type "list", dict := odict, data := .seq items nl, slots := oslots } := Heap.get?_push_of_some _ hol
        have hsls := F.sub_list_set
        have hslf := F.sub_list_frozenset
        have hne : (Value.type "list" == Value.type "dict") = false := by decide
        have hl1 : (s.heap.push (set0 w)).IsList l items := ⟨_, hol', rfl, nl, rfl⟩
        unfold Builtin.«set.__init__» noKeywords Builtin.Frozenset.updateFrom
        generalize hPI : pyIter = PI
        wp_walk
        subst hPI
        refine wpAny_pyIter_list hl1 ?_
        refine wpAny_bind (wpAny_runValue ?_)
        have hlS : l < s.heap.objs.size := Heap.lt_size hol
        have hh3 : A.in1.in1.in1.handled = none := by simp [hh]
        have hneI : l ≠ (s.heap.push (set0 w)).objs.size := by
          rw [Heap.size_push]; exact Nat.ne_of_lt (Nat.lt_succ_of_lt hlS)
        have hSf : s.heap.objs.size ∉ [(s.heap.push (set0 w)).objs.size, l] := by
          rw [Heap.size_push]; simp only [List.mem_cons, List.mem_singleton, List.not_mem_nil, or_false, not_or]
          exact ⟨Nat.ne_of_lt (Nat.lt_succ_self _), Nat.ne_of_gt hlS⟩
        have hval : ∀ (i : Nat) (v : Value), items[i]? = some v → ∃ k t, ns[i]? = some k ∧ v = .int k t := fun i v hv => by
          have hi : i < ns.length := by rw [← hisz]; exact (Array.getElem?_eq_some_iff.mp hv).1
          obtain ⟨t, e⟩ := PyProof.Rows.IntsAre.int_at hit i v (by rw [Array.getElem?_toList]; exact hv)
          refine ⟨ns[i], t, List.getElem?_eq_getElem hi, ?_⟩
          rw [e, List.getD_eq_getElem?_getD, List.getElem?_eq_getElem hi] <;> rfl
        refine set_update_ints ((Walks.list hh3 _ l hneI items).toS) s.heap.objs.size hSf ns hisz hb hval (items.size - 0) 0 _ (by omega) (Nat.zero_le _)
          ⟨⟨_, Heap.get?_push_size _ rfl, rfl, rfl⟩, (hl1.push _)⟩ ⟨0, Nat.le_refl 0, setR_new_at (Heap.get?_push_of_some _ hS)⟩ fun s' c' hm hc' hS' => ?_
        obtain ⟨h', g2, d', tk', os'⟩ := s'
        have eg : g2 = s.gens := hm.gens
        have ed : d' = s.drawn := hm.drawn
        have eo : os' = s.os := hm.os
        subst eg; subst ed; subst eo
        show wpAny _ _ _ _ _ _
        refine wpAny_pure ?_
        show wpAny _ _ (ret Value.none) _ _ _
        rw [hisz] at hc'
        refine wpAny_pure ⟨rfl, h', tk', c', rfl, hS', hc', fun b o e => ?_⟩
        have hb0 : b < s.heap.objs.size := Heap.lt_size e
        have hb2 : b ≠ (s.heap.push (set0 w)).objs.size := by
          rw [Heap.size_push]; exact Nat.ne_of_lt (Nat.lt_succ_of_lt hb0)
        exact hm.heap b o (by simp only [List.mem_cons, List.mem_singleton, List.not_mem_nil, or_false, not_or]; exact ⟨Nat.ne_of_lt hb0, hb2⟩) (Heap.get?_push_of_some _ (Heap.get?_push_of_some _ e))
      · cases r₂ with
        | error e => exact hr₂
        | ok fl₂ =>
          cases fl₂ with
          | ret r =>
            obtain ⟨rfl, h', tk, c', rfl, hS', hc', hk'⟩ := hr₂
            repeat (any_goals (first | assumption | wp_step))
            exact h _ _ _ hS' hc' hk'
          | _ => exact hr₂.elim
    | _ => exact hr.elim
end
end L2

set_option Elab.async false
set_option linter.all false
set_option maxRecDepth 100000
set_option maxHeartbeats 4000000
namespace L2
open PySem PySem.Spec PyProof.Rows
section
variable {P : Program} {w : World} {A : Around} {E : Value → Shared → Prop} {s : Shared} {a : Addr}
theorem sorted_setI {S : Int → Bool} {n : Nat} {Q : Value → Shared → Prop} (R : SetR w s.heap a S n) (hh : A.handled = none)
    (hQ : ∀ s' p (out : Array Value) (c : Nat) (ns : List Int), (∀ b o, s.heap.get? b = some o → s'.heap.get? b = some o) → s'.gens = s.gens → s'.os = s.os → s.heap.objs.size ≤ p →
      s'.heap.get? p = some (seqObj "list" out c) → IntsAre out.toList ns → ns.Pairwise (· < ·) → (∀ k, k ∈ ns ↔ S k = true) → ns.length = n → n < scanBound → Q (.ref p) s') :
    wpAny (model P w) A (call (.builtin "sorted") [.ref a]) Q E s := by
  obtain ⟨o, es, ep, t, ho, hex, hd, g, nd, hm, hb, hf, hn, hr, hl⟩ := R
  refine Calls.call_function_entry kind_sorted plain_sorted entry_sorted (args_sorted1 _) ?_
  unfold Builtin.«sorted»
  refine wpAny_bind (m := checkCount "sorted" 1 1 _) (wpAny_pure ?_)
  refine wpAny_bind (collect_set (A := A.in1) hh ⟨o, ho, hex.1, hd⟩ hf hb hr hl fun s1 vs k1 hz g1 o1 pm => ?_)
  have hvl : vs.length = n := by rw [pm.length_eq, List.length_map, Array.length_toList]; exact hn
  have hsl : vs.length ≤ sizeLine := by
    rw [hvl, ← hn, sizeLine_eq]
    unfold scanBound at hb
    omega
  have hI : IntsAre vs (vs.map Builtin.Re.reRawOf) := ints_of vs fun v hv => by
    obtain ⟨e, he, q⟩ := List.mem_map.mp (pm.mem_iff.mp hv)
    obtain ⟨k, tk, h1, _⟩ := g e he
    exact ⟨k, tk, by rw [← q]; exact h1⟩
  have pk : (vs.map Builtin.Re.reRawOf).Perm (es.toList.map keyOf) := by
    have q := pm.map Builtin.Re.reRawOf
    rw [List.map_map] at q
    exact q
  refine wpAny_bind (wpAny_newList ?_ hsl)
  have hoL : (s1.heap.push (seqObj "list" vs.toArray 0)).get? s1.heap.objs.size = some (seqObj "list" vs.toArray 0) := Heap.get?_push_size _ rfl
  refine wpAny_bind (wpAny_holding (wpAny_call_entry slot_list_sort ⟨_, hoL, rfl⟩ entry_list_sort (SrtO.list_sort_ord SrtO.swo_int hoL hsl (fun h2 => SrtO.ints_sortable hI h2) fun out h1 h2 => ⟨_, rfl, ?_⟩) (args_list_sort _)))
  obtain ⟨a1, a2, a3⟩ := SrtO.ints_out hI h1 h2
  obtain ⟨c, hc⟩ := sortedHeap_at (vs := vs) (out := out.toArray) hoL
  have pn : (out.map SrtO.iv).Perm (es.toList.map keyOf) := a2.trans pk
  refine wpAny_pure ⟨_, rfl, hQ _ s1.heap.objs.size out.toArray c (out.map SrtO.iv) (fun b u e => ?_) g1 o1 hz hc (by rw [List.toList_toArray]; exact a1) (lt_of_le_nodup _ a3 (pn.nodup_iff.mpr nd)) (fun k => by rw [pn.mem_iff, ← hm k]) ?_ (by rw [← hn]; exact hb)⟩
  · have q := k1 b u e
    have hlt := Heap.lt_size q
    show (sortedHeap (s1.heap.push (seqObj "list" vs.toArray 0)) s1.heap.objs.size vs out.toArray).get? b = some u
    rw [sortedHeap_old (Nat.ne_of_lt hlt) (by rw [size_push']; exact Nat.lt_succ_of_lt hlt)]
    exact Heap.get?_push_of_some _ q
  · rw [pn.length_eq, List.length_map, Array.length_toList]; exact hn
end
section
variable {X : Cx}
/-- sorted(set(xs)), ints -/
def tSortSet (K : PySem.W.Frag) (ta : TE) : TE := fun σ H Q => ta σ H fun x H1 => ∃ (l : Addr) (ns : List Int), x = V.ref l ∧ SqL K H1 l (ns.map V.int) ∧ ns.length < 4000 ∧
  ∀ (p : Addr) (ms : List Int), ms.Pairwise (· < ·) → (∀ k, k ∈ ms ↔ k ∈ ns) → H1 p = none → Q (.ref p) (upd H1 p (.lst (ms.map V.int)))
theorem pe_sortSet {a : Expr} {ta : TE} {p p2 q pos : Pos} (hc : X.calm = true) (hg : Gl X "sorted") (hm : X.mg "sorted" = none) (hg2 : Gl X "set") (hm2 : X.mg "set" = none) (ha : PE X a ta)
    (na : starEach [a] X.env = (false, eval a X.env) :: starEach [] X.env := by rfl) : PE X (.Call (.Name "sorted" p) [.Call (.Name "set" p2) [a] [] q] [] pos) (tSortSet X.K ta) := by
  refine ⟨fun pins s σ H Q I h => ?_⟩
  refine Call_ (ld_blt I hg hm PyProof.Rows.boot_sorted ?_)
  refine PyProof.Rows.callWith_builtin1 (PyProof.Rows.args_cons ?_ rfl) rfl rfl
  refine Call_ (ld_blt I hg2 hm2 PyProof.Rows.boot_set ?_)
  refine PyProof.Rows.callWith_type1 (PyProof.Rows.args_cons (thn (ha.run pins s σ H _ I h) fun v s1 ⟨x, H1, I1, r1, q1⟩ => PyProof.Rows.args_nil ?_) na) na rfl
  obtain ⟨l, ns, rfl, hq, h1, q1⟩ := q1
  cases r1
  obtain ⟨its, r, pl, hz⟩ := I1.list hq
  refine call_set_listI ns (I1.ok.hd hc) pl.isList (by simpa using r.ints) (by unfold scanBound; omega) fun h' tk c hS hcn hk => ?_
  refine PyProof.Rows.args_nil ?_
  have I2 : Inv X pins σ H1 { s1 with heap := h', toks := tk } := I1.kept fun b o e => hk b o e
  refine sorted_setI hS (I1.ok.hd hc) fun s' p out c' ms k g o hp hg3 hI pw hmem hlen hsb => ?_
  have hn : H1 p = none := I2.hok.fresh hp
  have hv : Vals (ms.map V.int) out.toList := vals_of_ints hI
  have hle : (ms.map V.int).length ≤ sizeLine := by
    rw [List.length_map, hlen, sizeLine_eq]
    unfold scanBound at hsb
    omega
  have J : Inv X pins σ (upd H1 p (.lst (ms.map V.int))) { s1 with heap := s'.heap, gens := s'.gens, drawn := s'.drawn, toks := s'.toks } :=
    I1.call (ch := []) (Un.laid (fun b u e => k b u (hk b u e)) (Nat.le_trans (Nat.le_of_lt hS.lt) hp) hn) (I1.hok.laid (fun b u e => k b u (hk b u e)) (Nat.le_trans (Nat.le_of_lt hS.lt) hp) ⟨hle, out.toList, c', hv, hg3⟩) (by rw [g]; exact I1.bare) (fun _ z => nomatch z)
  have e : s' = { s1 with heap := s'.heap, gens := s'.gens, drawn := s'.drawn, toks := s'.toks } := by
    cases s'
    cases s1
    cases o
    rfl
  rw [e]
  exact ⟨.ref p, _, J, rfl, q1 p ms pw (fun k => by rw [hmem k]; simp) hn⟩
end
end L2

set_option Elab.async false
set_option linter.all false
set_option maxRecDepth 100000
set_option maxHeartbeats 4000000
set_option exponentiation.threshold 3000
namespace Gr
open PySem PySem.Spec PyProof.Rows L2
open Pm (Rn)
theorem prs_mem {c : Int} {Z : List Rn} (ne : Z ≠ []) : ∀ q ∈ prs c Z, q.2 ∈ Z ∧ ((∃ l ∈ Z, q.1 = Pm.mv (-c) l) ∨ q.1 ∈ Z) := by
  rintro ⟨b, r⟩ h
  obtain ⟨h1, h2⟩ := List.of_mem_zip h
  refine ⟨h2, ?_⟩
  rcases List.mem_cons.mp h1 with e | h
  · refine .inl ⟨Z.getLastD (0, 0, 0), ?_, e⟩
    rcases List.eq_nil_or_concat Z with z | ⟨pre, l, z⟩
    · exact absurd z ne
    · rw [z]; simp
  · exact .inr (List.dropLast_subset _ h)
theorem filt_snoc {α β : Type} {l : List α} {i : Nat} {x : α} {p : α → Bool} {g : α → β} (h : l[i]? = some x) : ((l.take (i + 1)).filter p).map g = ((l.take i).filter p).map g ++ (if p x = true then [g x] else []) := by
  rw [List.take_add_one, h, List.filter_append, List.map_append]
  show _ ++ ((([x] : List α).filter p).map g) = _
  rw [List.filter_cons]
  split <;> simp
theorem pw_get {rs : List Rn} (h : rs.Pairwise Pm.GoesOn) {i j : Nat} {a b : Rn} (hi : rs[i]? = some a) (hj : rs[j]? = some b) (l : i < j) : Pm.GoesOn a b := by
  obtain ⟨h1, e1⟩ := List.getElem?_eq_some_iff.mp hi
  obtain ⟨h2, e2⟩ := List.getElem?_eq_some_iff.mp hj
  rw [← e1, ← e2]
  exact (List.pairwise_iff_getElem.mp h) i j h1 h2 l
theorem prs_cons {c : Int} {rs : List Rn} (ok : Pm.Ok c rs) : ∀ q ∈ prs c rs, ∀ s ∈ rs, ∀ k : Int, s.2.1 + k * c ≤ q.1.2.1 ∨ q.2.1 ≤ s.1 + k * c := by
  rintro ⟨b, r⟩ hq s hs k
  obtain ⟨pre, l, rfl⟩ : ∃ pre l, rs = pre ++ [l] := by
    rcases List.eq_nil_or_concat rs with e | ⟨pre, l, e⟩
    · exact absurd e ok.ne
    · exact ⟨pre, l, by rw [e, List.concat_eq_append]⟩
  unfold prs at hq
  rw [getLastD_snoc, dropLast_snoc] at hq
  obtain ⟨j, hj⟩ := List.mem_iff_getElem?.mp hq
  obtain ⟨j1, j2⟩ := List.getElem?_zip_eq_some.mp hj
  have h1 : (Pm.mv (-c) l :: pre)[j]? = some b := j1
  have h2 : (pre ++ [l])[j]? = some r := j2
  clear j1 j2
  show s.2.1 + k * c ≤ b.2.1 ∨ r.1 ≤ s.1 + k * c
  obtain ⟨i, hi⟩ := List.mem_iff_getElem?.mp hs
  have hr := List.mem_of_getElem? h2
  have fr := ok.fl r hr
  have fs := ok.fl s hs
  have ml : l ∈ pre ++ [l] := by simp
  have fl := ok.fl l ml
  have gl : (pre ++ [l])[pre.length]? = some l := by rw [List.getElem?_append_right (Nat.le_refl _), Nat.sub_self]; rfl
  cases j with
  | zero =>
    cases h1
    show s.2.1 + k * c ≤ l.2.1 + -c ∨ r.1 ≤ s.1 + k * c
    rcases Int.lt_trichotomy k 0 with k0 | k0 | k0
    · left
      by_cases k1 : k = -1
      · subst k1
        have : s.2.1 ≤ l.2.1 := by
          have hl : i < (pre ++ [l]).length := (List.getElem?_eq_some_iff.mp hi).1
          rw [List.length_append, List.length_singleton] at hl
          by_cases e : i = pre.length
          · subst e; rw [gl] at hi; cases hi; exact Int.le_refl _
          · have := (pw_get ok.pw hi gl (by omega)).1; omega
        omega
      · have := (ok.later hs ml (show k < -1 by omega)).1
        simp only [Pm.mv1, Pm.mv2] at this
        omega
    · right
      subst k0
      by_cases e : i = 0
      · subst e; rw [h2] at hi; cases hi; omega
      · have := (pw_get ok.pw h2 hi (by omega)).1; omega
    · right
      have := (ok.later hr hs k0).1
      simp only [Pm.mv1, Pm.mv2] at this
      omega
  | succ j =>
    have hb : (pre ++ [l])[j]? = some b := by
      have := (List.getElem?_eq_some_iff.mp h1).1
      rw [List.getElem?_cons_succ] at h1
      rw [List.getElem?_append_left (List.getElem?_eq_some_iff.mp h1).1]; exact h1
    have mb := List.mem_of_getElem? hb
    have fb := ok.fl b mb
    rcases Int.lt_trichotomy k 0 with k0 | k0 | k0
    · left
      have := (ok.later hs mb k0).1
      simp only [Pm.mv1, Pm.mv2] at this
      omega
    · subst k0
      rcases Nat.lt_trichotomy i j with e | e | e
      · left; have := (pw_get ok.pw hi hb e).1; omega
      · left; subst e; rw [hb] at hi; cases hi; omega
      · right
        by_cases e2 : i = j + 1
        · subst e2; rw [h2] at hi; cases hi; omega
        · have := (pw_get ok.pw h2 hi (by omega)).1; omega
    · right
      have := (ok.later hr hs k0).1
      simp only [Pm.mv1, Pm.mv2] at this
      omega
theorem prs_G {c : Int} {rs : List Rn} (ok : Pm.Ok c rs) {q : Rn × Rn} (h : q ∈ prs c rs) : Pm.G c rs q.1.2.1 (Pm.la q.1) ∧ Pm.G c rs q.2.1 q.2.2.2 ∧ ∀ z w, q.1.2.1 < z → z < q.2.1 → ¬ Pm.G c rs z w := by
  obtain ⟨m2, m1⟩ := prs_mem ok.ne q h
  refine ⟨?_, ⟨q.2, m2, 0, by omega, by have := ok.fl _ m2; omega, by omega⟩, fun z w a b => ?_⟩
  · rcases m1 with ⟨l, hl, e⟩ | hl
    · rw [e]
      refine ⟨l, hl, -1, ?_, ?_, ?_⟩
      · have := ok.fl l hl; show l.1 + -1 * c ≤ l.2.1 + -c; omega
      · show l.2.1 + -c ≤ l.2.1 + -1 * c; omega
      · show l.2.2 + -c + (l.2.1 + -c) - (l.1 + -c) = l.2.2 + (l.2.1 + -c) - l.1; omega
    · exact ⟨q.1, hl, 0, by have := ok.fl _ hl; omega, by omega, rfl⟩
  · rintro ⟨s, hs, k, h1, h2, _⟩
    rcases prs_cons ok q h s hs k with e | e <;> omega
theorem prs_snd {c : Int} {rs : List Rn} {r : Rn} (h : r ∈ rs) : ∃ b, (b, r) ∈ prs c rs := by
  obtain ⟨i, hi⟩ := List.mem_iff_getElem?.mp h
  have hl := (List.getElem?_eq_some_iff.mp hi).1
  unfold prs
  have l : i < (Pm.mv (-c) (rs.getLastD (0, 0, 0)) :: rs.dropLast).length := by rw [List.length_cons, List.length_dropLast]; omega
  exact ⟨(Pm.mv (-c) (rs.getLastD (0, 0, 0)) :: rs.dropLast)[i], List.mem_iff_getElem?.mpr ⟨i, List.getElem?_zip_eq_some.mpr ⟨List.getElem?_eq_getElem l, hi⟩⟩⟩
theorem G_lt {c : Int} {rs : List Rn} (ok : Pm.Ok c rs) {z y z' y' : Int} (h : Pm.G c rs z y) (h' : Pm.G c rs z' y') (lt : z < z') : y < y' := by
  obtain ⟨a, ha, i, a1, a2, rfl⟩ := h
  obtain ⟨b, hb, j, b1, b2, rfl⟩ := h'
  have la : Pm.la a = a.2.2 + a.2.1 - a.1 := rfl
  rcases ok.tri2 ha hb i j with ⟨rfl, rfl⟩ | g | g
  · omega
  · unfold Pm.GoesOn at g; simp only [Pm.mv1, Pm.mv2, Pm.mv3, Pm.la_mv] at g; omega
  · unfold Pm.GoesOn at g; simp only [Pm.mv1, Pm.mv2, Pm.mv3, Pm.la_mv] at g; omega
theorem F_grows {c : Int} {rs : List Rn} (ok : Pm.Ok c rs) (x : Int) : (∃ y, Pm.G c rs x y) ↔ Pm.F c rs x < Pm.F c rs (x + 1) := by
  obtain ⟨z, z0, gz, mz⟩ := ok.F_is x
  obtain ⟨w, w0, gw, mw⟩ := ok.F_is (x + 1)
  constructor
  · rintro ⟨y, h⟩
    have e : z = x := by
      by_cases e : z = x
      · exact e
      · exact absurd h (mz x y (Int.le_refl _) (by omega))
    subst e
    exact G_lt ok gz gw (by omega)
  · intro lt
    by_cases e : z = x
    · subst e; exact ⟨_, gz⟩
    · have : Pm.F c rs (x + 1) = Pm.F c rs x := Pm.FG_eq ok.fun2 ⟨z, by omega, gz, fun z' y' a b => mz z' y' (by omega) b⟩
      omega
theorem F_last {c : Int} {rs : List Rn} (ok : Pm.Ok c rs) {z y : Int} (h : Pm.G c rs z y) : Pm.F c rs z = y := Pm.FG_eq ok.fun2 ⟨z, Int.le_refl _, h, fun z' y' a b => by omega⟩
theorem F_next {c : Int} {rs : List Rn} (ok : Pm.Ok c rs) {x z y : Int} (h : Pm.G c rs z y) (le : x ≤ z) (no : ∀ z' y', x ≤ z' → z' < z → ¬ Pm.G c rs z' y') : Pm.F c rs x = y := Pm.FG_eq ok.fun2 ⟨z, le, h, no⟩
theorem F_le {c : Int} {rs : List Rn} (ok : Pm.Ok c rs) {x z y : Int} (h : Pm.G c rs z y) (le : x ≤ z) : Pm.F c rs x ≤ y := by
  obtain ⟨w, w0, gw, mw⟩ := ok.F_is x
  rcases Int.lt_trichotomy w z with e | e | e
  · have := G_lt ok gw h e; omega
  · subst e; rw [ok.fun2 _ _ _ gw h]; exact Int.le_refl _
  · exact absurd h (mw z y le e)
theorem F_same {c : Int} {A Z : List Rn} (g : ∀ z y, Pm.G c A z y ↔ Pm.G c Z z y) : Pm.G c A = Pm.G c Z := funext fun z => funext fun y => propext (g z y)
theorem F_bound {c M x : Int} {Z : List Rn} (can : Pm.Can c Z) (ba : BA M Z) : -M + x - c ≤ Pm.F c Z x ∧ Pm.F c Z x ≤ M + x + c := by
  have ok := can.1
  obtain ⟨z, z0, gz, mz⟩ := ok.F_is x
  have c1 := ok.c1
  have zc : z - c < x := Decidable.byContradiction fun h => by
    have := Pm.G_move (-1) gz
    rw [show z + -1 * c = z - c by omega] at this
    exact mz _ _ (by omega) (by omega) this
  obtain ⟨r, hr, k, h1, h2, e⟩ := gz
  have a := ba r hr
  have b := can_rng can r hr
  rw [e]
  omega
end Gr

set_option Elab.async false
set_option linter.all false
set_option maxRecDepth 100000
set_option maxHeartbeats 4000000
namespace Gr
open PySem PySem.Spec PyProof.Rows L2
open Pm (Rn)
/-! ### latest starts: the rows and what they tell -/
def latQ (q : Rn × Rn) : List Rn := (q.2.2.2 - 1, q.2.2.2 - 1, q.1.2.1) :: (if q.2.1 < q.2.2.1 then [(q.2.2.2, q.2.2.2 + q.2.2.1 - q.2.1 - 1, q.2.1)] else [])
def latL (c : Int) (rs : List Rn) : List Rn := (prs c rs).flatMap latQ
theorem latQ_mem {q : Rn × Rn} {r : Rn} : r ∈ latQ q ↔ r = (q.2.2.2 - 1, q.2.2.2 - 1, q.1.2.1) ∨ (q.2.1 < q.2.2.1 ∧ r = (q.2.2.2, q.2.2.2 + q.2.2.1 - q.2.1 - 1, q.2.1)) := by
  unfold latQ
  by_cases h : q.2.1 < q.2.2.1
  · rw [if_pos h]; simp [h]
  · rw [if_neg h]; simp [h]
theorem lat_mem {c : Int} {rs : List Rn} {r : Rn} : r ∈ latL c rs ↔ ∃ q ∈ prs c rs, r = (q.2.2.2 - 1, q.2.2.2 - 1, q.1.2.1) ∨ (q.2.1 < q.2.2.1 ∧ r = (q.2.2.2, q.2.2.2 + q.2.2.1 - q.2.1 - 1, q.2.1)) := by
  unfold latL
  simp only [List.mem_flatMap, latQ_mem]
/-- one pair of neighbours behind another one -/
def PairB (q q' : Rn × Rn) : Prop := Pm.GoesOn q.2 q'.2 ∧ q.2.2.1 ≤ q'.1.2.1 ∧ q.1.2.1 < q'.1.2.1
theorem prs_pw {c : Int} {rs : List Rn} (ok : Pm.Ok c rs) : (prs c rs).Pairwise PairB := by
  rw [List.pairwise_iff_getElem]
  intro i j hi hj lt
  have gi : (prs c rs)[i]? = some (prs c rs)[i] := List.getElem?_eq_getElem hi
  have gj : (prs c rs)[j]? = some (prs c rs)[j] := List.getElem?_eq_getElem hj
  generalize (prs c rs)[i] = q at gi ⊢
  generalize (prs c rs)[j] = q' at gj ⊢
  have g1 := prs_goes ok q (List.mem_of_getElem? gi)
  obtain ⟨b, r⟩ := q
  obtain ⟨b', r'⟩ := q'
  unfold prs at gi gj
  have ri := (List.getElem?_zip_eq_some.mp gi).2
  have rj := (List.getElem?_zip_eq_some.mp gj).2
  have bj := (List.getElem?_zip_eq_some.mp gj).1
  cases j with
  | zero => omega
  | succ j =>
    rw [List.getElem?_cons_succ, List.getElem?_dropLast] at bj
    split at bj
    · have go := pw_get ok.pw ri rj lt
      have fr := ok.fl r (List.mem_of_getElem? ri)
      have fb := ok.fl b' (List.mem_of_getElem? bj)
      have h1 : b.2.1 < r.1 := g1.1
      have le : r.2.1 ≤ b'.2.1 := by
        by_cases e : i = j
        · subst e; rw [ri] at bj; cases bj; exact Int.le_refl _
        · have : r.2.1 < b'.1 := (pw_get ok.pw ri bj (by omega)).1
          omega
      exact ⟨go, le, by show b.2.1 < b'.2.1; omega⟩
    · cases bj
theorem prs_ne {c : Int} {rs : List Rn} (h : rs ≠ []) : prs c rs ≠ [] := by
  obtain ⟨r, hr⟩ := List.exists_mem_of_ne_nil _ h
  obtain ⟨b, hb⟩ := prs_snd (c := c) hr
  exact List.ne_nil_of_mem hb
theorem lat_ok {c : Int} {rs : List Rn} (ok : Pm.Ok c rs) : Pm.Ok c (latL c rs) := by
  have c1 := ok.c1
  have inR : ∀ q ∈ prs c rs, q.2 ∈ rs := fun q hq => (prs_mem ok.ne q hq).1
  refine ⟨c1, ?_, ?_, ?_, ?_⟩
  · obtain ⟨q, hq⟩ := List.exists_mem_of_ne_nil _ (prs_ne (c := c) ok.ne)
    exact List.ne_nil_of_mem (lat_mem.mpr ⟨q, hq, .inl rfl⟩)
  · intro r hr
    obtain ⟨q, hq, rfl | ⟨l, rfl⟩⟩ := lat_mem.mp hr
    · exact Int.le_refl _
    · show q.2.2.2 ≤ q.2.2.2 + q.2.2.1 - q.2.1 - 1; omega
  · unfold latL
    rw [List.pairwise_flatMap]
    refine ⟨fun q hq => ?_, (prs_pw ok).imp_of_mem ?_⟩
    · have g1 := prs_goes ok q hq
      unfold latQ
      by_cases h : q.2.1 < q.2.2.1
      · rw [if_pos h]
        refine List.pairwise_cons.mpr ⟨fun r hr => ?_, List.pairwise_singleton _ _⟩
        rw [List.mem_singleton.mp hr]
        have := g1.1
        exact ⟨by show q.2.2.2 - 1 < q.2.2.2; omega, by show q.1.2.1 + (q.2.2.2 - 1) - (q.2.2.2 - 1) < q.2.1; omega⟩
      · rw [if_neg h]; exact List.pairwise_singleton _ _
    · rintro q q' hq hq' ⟨⟨h1, h2⟩, h3, h4⟩ x hx y hy
      have f := ok.fl _ (inR q hq)
      have f' := ok.fl _ (inR q' hq')
      have g1 := (prs_goes ok q hq).1
      have g1' := (prs_goes ok q' hq').1
      unfold Pm.la at h2
      rcases latQ_mem.mp hx with rfl | ⟨l, rfl⟩ <;> rcases latQ_mem.mp hy with rfl | ⟨l', rfl⟩ <;> (unfold Pm.GoesOn Pm.la; constructor <;> ((try simp only []); omega))
  · intro a ha b hb
    obtain ⟨q, hq, ea⟩ := lat_mem.mp ha
    obtain ⟨q', hq', eb⟩ := lat_mem.mp hb
    have f := ok.fl _ (inR q hq)
    have f' := ok.fl _ (inR q' hq')
    have g1 := (prs_goes ok q hq).1
    have g1' := (prs_goes ok q' hq').1
    obtain ⟨h1, h2⟩ := ok.cy _ (inR q hq) _ (inR q' hq')
    have h3 : q.2.2.1 - c ≤ q'.1.2.1 := by
      have h1' : q.2.2.1 + -c < q'.2.1 := h1
      rcases prs_cons ok q' hq' q.2 (inR q hq) (-1) with e | e <;> omega
    simp only [Pm.mv1, Pm.mv2, Pm.mv3, Pm.la_mv] at h1 h2
    unfold Pm.la at h2
    rcases ea with rfl | ⟨l, rfl⟩ <;> rcases eb with rfl | ⟨l', rfl⟩ <;> (unfold Pm.GoesOn; simp only [Pm.mv1, Pm.mv2, Pm.mv3, Pm.la_mv]; unfold Pm.la; constructor <;> ((try simp only []); omega))
/-- (i) each row tells a last start, the next arrival right behind -/
theorem lat_one {c : Int} {rs : List Rn} (ok : Pm.Ok c rs) {z x : Int} (h : Pm.G c (latL c rs) z x) : (∃ v, Pm.G c rs x v) ∧ Pm.F c rs (x + 1) = z + 1 := by
  obtain ⟨r, hr, k, h1, h2, e⟩ := h
  obtain ⟨q, hq, rfl | ⟨l, rfl⟩⟩ := lat_mem.mp hr
  · obtain ⟨g1, g2, g3⟩ := prs_G ok hq
    simp only [] at h1 h2 e
    have ez : z = q.2.2.2 - 1 + k * c := by omega
    have ex : x = q.1.2.1 + k * c := by omega
    refine ⟨⟨_, by rw [ex]; exact Pm.G_move k g1⟩, ?_⟩
    rw [F_next ok (Pm.G_move k g2) (x := x + 1) (by have := (prs_goes ok q hq).1; omega) fun z' y' a b gz => ?_]
    · omega
    · have := Pm.G_move (-k) gz
      rw [Int.neg_mul] at this
      exact g3 _ _ (by omega) (by omega) this
  · have hm := (prs_mem ok.ne q hq).1
    simp only [] at h1 h2 e
    refine ⟨⟨_, q.2, hm, k, by omega, by omega, rfl⟩, ?_⟩
    rw [F_last ok (z := x + 1) ⟨q.2, hm, k, by omega, by omega, rfl⟩]
    omega
/-- (ii) a moment right ahead of an arrival has a row -/
theorem lat_two {c : Int} {rs : List Rn} (ok : Pm.Ok c rs) {w v : Int} (h : Pm.G c rs w v) : ∃ x, Pm.G c (latL c rs) (v - 1) x := by
  obtain ⟨r, hr, k, h1, h2, e⟩ := h
  obtain ⟨b, hb⟩ := prs_snd (c := c) hr
  by_cases h : w = r.1 + k * c
  · exact ⟨_, _, lat_mem.mpr ⟨_, hb, .inl rfl⟩, k, by show r.2.2 - 1 + k * c ≤ v - 1; omega, by show v - 1 ≤ r.2.2 - 1 + k * c; omega, rfl⟩
  · exact ⟨_, _, lat_mem.mpr ⟨_, hb, .inr ⟨by show r.1 < r.2.1; omega, rfl⟩⟩, k, by show r.2.2 + k * c ≤ v - 1; omega, by show v - 1 ≤ r.2.2 + r.2.1 - r.1 - 1 + k * c; omega, rfl⟩
/-- the latest start for a moment -/
theorem lat_is {c : Int} {rs : List Rn} (ok : Pm.Ok c rs) (y : Int) : Pm.F c rs (Pm.F c (latL c rs) y) ≤ y ∧ y < Pm.F c rs (Pm.F c (latL c rs) y + 1) := by
  obtain ⟨z, z0, gz, mz⟩ := (lat_ok ok).F_is y
  obtain ⟨⟨v, hv⟩, e⟩ := lat_one ok gz
  have ev := F_last ok hv
  have gr := (F_grows ok _).mp ⟨v, hv⟩
  refine ⟨Decidable.byContradiction fun h => ?_, by omega⟩
  obtain ⟨x', hx⟩ := lat_two ok hv
  exact mz _ _ (by omega) (by omega) hx
/-- and there is one alone -/
theorem F_mono {c : Int} {rs : List Rn} (ok : Pm.Ok c rs) {x y : Int} (h : x ≤ y) : Pm.F c rs x ≤ Pm.F c rs y := by
  obtain ⟨z, z0, gz, _⟩ := ok.F_is y
  exact F_le ok gz (by omega)
theorem lat_uniq {c : Int} {rs : List Rn} (ok : Pm.Ok c rs) {x y : Int} (h1 : Pm.F c rs x ≤ y) (h2 : y < Pm.F c rs (x + 1)) : Pm.F c (latL c rs) y = x := by
  obtain ⟨a, b⟩ := lat_is ok y
  rcases Int.lt_trichotomy (Pm.F c (latL c rs) y) x with h | h | h
  · have := F_mono ok (show Pm.F c (latL c rs) y + 1 ≤ x by omega); omega
  · exact h
  · have := F_mono ok (show x + 1 ≤ Pm.F c (latL c rs) y by omega); omega
end Gr

set_option Elab.async false
set_option linter.all false
set_option pp.deepTerms false
set_option pp.maxSteps 3000
set_option maxRecDepth 100000
set_option maxHeartbeats 4000000
set_option exponentiation.threshold 3000
namespace Gr
open PySem PySem.Spec PyProof.Rows L2
open Pm (Rn)
/-! ### latest_runs, Passage.latest, Passage.__eq__ -/
structure IsP (K : PySem.W.Frag) (C : Addr) : Prop where
  ha : PySem.W.findIn K (.ref C) "__class__" = some (some (.builtin "object.__class__"))
  hn : PySem.W.specialIn K (.builtin "object.__class__") "__get__" = some (some (.builtin "getset_descriptor.__get__"))
  htk : PySem.W.takesIn K (.builtin "object.__class__") = some true
  hm : PySem.W.mroIn K C (.type "object") = some true
  one : PySem.W.kitOne K (.ref C) (.ref C) = some true
def spLatR : Sp := fun vs H Q _ => ∃ (c : Int) (a : Addr) (rs : List Rn), vs = [.int c, .ref a] ∧ RnsT H a rs ∧ rs ≠ [] ∧ rs.length ≤ 20000 ∧ ∀ T H', Same H H' → RnsT H' T (latL c rs) → Q (.ref T) H'
theorem latQ_len (q : Rn × Rn) : (latQ q).length ≤ 2 := by unfold latQ; split <;> simp
theorem lat_len (ps : List (Rn × Rn)) : (ps.flatMap latQ).length ≤ 2 * ps.length := by
  induction ps with
  | nil => exact Nat.zero_le _
  | cons q ps ih =>
    rw [List.flatMap_cons, List.length_append, List.length_cons]
    have := latQ_len q
    omega
theorem latL_len {c : Int} {rs : List Rn} : (latL c rs).length ≤ 2 * rs.length := by
  refine Nat.le_trans (lat_len _) (Nat.mul_le_mul_left _ ?_)
  unfold prs; rw [List.length_zip]; exact Nat.min_le_right _ _
theorem app_keep {G : Hp} {F T b : Addr} {us ys xs : List V} {o : HO} (hF : G F = some (.lst us)) (hT : G T = none) (h : G b = some (.tup xs)) : (upd (upd G T o) F (.lst ys)) b = some (.tup xs) := by
  rw [upd_ne (ne_of h hF (fun z => nomatch z))]; exact Same.new hT _ _ h
theorem app_list {G : Hp} {F T L : Addr} {us ys ps : List V} {o : HO} (hT : G T = none) (h : G L = some (.lst ps)) (n : L ≠ F) : (upd (upd G T o) F (.lst ys)) L = some (.lst ps) := by
  rw [upd_ne n]; exact Same.new hT _ _ h
theorem app_row {G : Hp} {F T : Addr} {us : List V} {rs : List Rn} (hF : G F = some (.lst us)) (hT : G T = none) (hU : Paired (RnAt G) us rs) (r : Rn) : Paired (RnAt (upd (upd G T (.tup (i3 r))) F (.lst (us ++ [.ref T])))) (us ++ [.ref T]) (rs ++ [r]) := by
  have nTF : T ≠ F := fun e => by rw [e, hF] at hT; cases hT
  exact paired_snoc (L2.Paired.mapP hU fun _ _ ⟨b, e, h⟩ => ⟨b, e, app_keep hF hT h⟩) ⟨T, rfl, by rw [upd_ne nTF]; exact upd_same⟩
theorem app_same {H G : Hp} {F T : Addr} {us ys : List V} {o : HO} (hH : H F = none) (s : Same H G) (hT : G T = none) : Same H (upd (upd G T o) F (.lst ys)) := fun q o' e => by
  rw [upd_ne (ne_of_none e hH)]; exact Same.new hT _ _ (s q o' e)
theorem app_prs {G : Hp} {F T : Addr} {us ys ps : List V} {qs : List (Rn × Rn)} {o : HO} (hF : G F = some (.lst us)) (hT : G T = none) (h : Paired (PrAt G) ps qs) : Paired (PrAt (upd (upd G T o) F (.lst ys))) ps qs :=
  L2.Paired.mapP h fun _ _ ⟨t, u, v, e, ht, ⟨bu, eu, hu⟩, ⟨bv, ev, hv⟩⟩ => ⟨t, u, v, e, app_keep hF hT ht, ⟨bu, eu, app_keep hF hT hu⟩, ⟨bv, ev, app_keep hF hT hv⟩⟩
section
variable {P : Program} {w : World} {K : PySem.W.Frag} {mg : Str → Option Value} {base : Heap} {tC : Tok}
end
end Gr

set_option Elab.async false
set_option linter.all false
set_option pp.deepTerms false
set_option pp.maxSteps 3000
set_option maxRecDepth 100000
set_option maxHeartbeats 4000000
set_option exponentiation.threshold 3000
namespace Gr
open PySem PySem.Spec PyProof.Rows L2
open Pm (Rn)
def spLatest (C : Addr) : Sp := fun vs H Q _ => ∃ (p : Addr) (c M : Int) (Z : List Rn), vs = [.ref p] ∧ PasAt C H p c M Z ∧ Z.length ≤ 20000 ∧ M ≤ 10 ^ 199 ∧
  ∀ x H' Zl, Same H H' → PasAt C H' x c (2 * (M + 2 * c + 1) + c) Zl → (∀ z y, Pm.G c (latL c Z) z y ↔ Pm.G c Zl z y) → Zl.length ≤ 2 * Z.length → Q (.ref x) H'
def EqP (C : Addr) (a b : Addr) (H : Hp) : Prop := ∃ c M M' Z, PasAt C H a c M Z ∧ PasAt C H b c M' Z
theorem lat_br {c M : Int} {Z : List Rn} (can : Pm.Can c Z) (ba : BA M Z) : BR (M + 2 * c + 1) (latL c Z) := by
  intro r hr
  have ok := can.1
  have c1 := ok.c1
  obtain ⟨q, hq, e⟩ := lat_mem.mp hr
  obtain ⟨m2, m1⟩ := prs_mem ok.ne q hq
  have a1 := can_rng can q.2 m2
  have a2 := ba q.2 m2
  have b1 : -c ≤ q.1.2.1 ∧ q.1.2.1 ≤ 2 * c := by
    rcases m1 with ⟨l, hl, e'⟩ | hl
    · have a3 := can_rng can l hl
      have : q.1.2.1 = l.2.1 + -c := by rw [e']; rfl
      omega
    · have a3 := can_rng can q.1 hl; omega
  rcases e with rfl | ⟨l, rfl⟩ <;> (simp only []; omega)
def rnD (r : Rn) : PyData := .tuple [.int r.1, .int r.2.1, .int r.2.2]
def rnsD (Z : List Rn) : PyData := .tuple (Z.map rnD)
theorem lay_rns : ∀ Z : List Rn, PyData.canLayAll0 (Z.map rnD) = true
  | [] => by simp [PyData.canLayAll0]
  | r :: Z => by simp [PyData.canLayAll0, PyData.canLay0, rnD, lay_rns Z]
theorem depth_rns : ∀ Z : List Rn, PyData.depthAll (Z.map rnD) ≤ 5
  | [] => by simp [PyData.depthAll]
  | r :: Z => by
    have := depth_rns Z
    simp only [List.map_cons, PyData.depthAll, PyData.depth, rnD]
    omega
theorem shaped_rns (Z : List Rn) : SeqAt.shaped (rnsD Z) = true := by
  have h := depth_rns Z
  unfold SeqAt.shaped rnsD
  rw [Bool.and_eq_true]
  refine ⟨by simpa only [PyData.canLay0] using lay_rns Z, decide_eq_true ?_⟩
  simp only [PyData.depth]
  omega
theorem eqv_rns (Z : List Rn) : PyData.eqv (rnsD Z) (rnsD Z) = true := SeqAt.eqv_refl _ (SeqAt.canLay_of_shaped (shaped_rns Z))
theorem dp_rns {K : PySem.W.Frag} {H : Hp} : ∀ {xs : List V} {Z : List Rn}, Paired (RnAt H) xs Z → DpAll K H xs (Z.map rnD)
  | _, _, .nil => .nil
  | _, _, .cons r t => by
    obtain ⟨b, rfl, h⟩ := r
    exact .cons (.tup (SqT.of h) (.cons (.int _) (.cons (.int _) (.cons (.int _) .nil)))) (dp_rns t)
theorem RnsT.dp {K : PySem.W.Frag} {H : Hp} {a : Addr} {Z : List Rn} (h : RnsT H a Z) : Dp K H (.ref a) (rnsD Z) := by
  obtain ⟨xs, h1, h2⟩ := h
  exact .tup (SqT.of h1) (dp_rns h2)
section
variable {P : Program} {w : World} {K : PySem.W.Frag} {mg : Str → Option Value} {base : Heap} {tC : Tok}
theorem ok_eqP {C fI fC f : Addr} {fd : FuncData} (B : Blt mg tC) (TP : TxtP K mg C fI fC) (IP : IsP K C) (DP_eq : DefM K "__eq__" "Passage.__eq__" s_P_eq ["self", "other"] f fd) : FnOk P w K mg base CX0 1 f fd ["self", "other"] (spEq (EqP C)) := by
  refine DP_eq.F.ok scP_eq (fun vs H Q E h => ?_) (fun cdv A outer s H vs Q E hr h => ⟨_, (pss_one (ps_ret (pe_and (pe_callB call_isi (by rfl) B.n_isinstance (by decide +kernel) (pa_cons (pv 1) (pa_cons (pe_glob (v := .ref C) (by rfl) TP.mgC rfl) pa_nil))) (pe_and (pe_cmpR op_eq (pe_fld (pv 0) rfl) (pe_fld (pv 1) rfl) (nomark _)) (pe_one (pe_cmpR (op_eqD hr.units) (pe_fld (pv 0) rfl) (pe_fld (pv 1) rfl) (nomark _))))))), ?_⟩)
  · obtain ⟨a, b, rfl, _⟩ := h; rfl
  · obtain ⟨p, p', rfl, ⟨c, M, M', Z, h1, h2⟩, q⟩ := h
    obtain ⟨dx, a, hp, hS⟩ := h1.ob
    obtain ⟨dx', a', hp', hS'⟩ := h2.ob
    refine ⟨_, rfl, _, _, _, _, _, rfl, .own C, .base (.ins hp' TP.cl IP.ha IP.hn IP.htk IP.hm), IP.one, ?_⟩
    refine ⟨true, rfl, ?_⟩
    refine ⟨_, rfl, p, C, dx, _, _, rfl, hp, TP.cl, TP.nC, fldP_cycle _ _, _, rfl, p', C, dx', _, _, rfl, hp', TP.cl, TP.nC, fldP_cycle _ _, rfl, ?_⟩
    rw [decide_eq_true rfl]
    refine ⟨true, rfl, ?_⟩
    refine ⟨_, rfl, p, C, dx, _, _, rfl, hp, TP.cl, TP.nR, fldP_runs _ _, _, rfl, p', C, dx', _, _, rfl, hp', TP.cl, TP.nR, fldP_runs _ _, rnsD Z, rnsD Z, hS.dp, hS'.dp, shaped_rns Z, shaped_rns Z, ?_⟩
    rw [eqv_rns]
    exact q H Ext.rfl'
end
end Gr

set_option Elab.async false
set_option linter.all false
set_option pp.deepTerms false
set_option pp.maxSteps 3000
set_option maxRecDepth 100000
set_option maxHeartbeats 8000000
set_option exponentiation.threshold 3000
namespace Gr
open PySem PySem.Spec PyProof.Rows L2
open Pm (Rn)
/-! ### arrivals_at: one walk along the runs -/
def walk (c : Int) (rs : List Rn) : List Rn := Pm.mv (-c) (rs.getLastD (0, 0, 0)) :: (rs ++ [Pm.mv c (rs.headD (0, 0, 0))])
theorem take_get {α : Type} {l : List α} {j : Nat} {w : α} (h : l[j]? = some w) : l = l.take j ++ w :: l.drop (j + 1) := by
  obtain ⟨hl, rfl⟩ := List.getElem?_eq_some_iff.mp h
  rw [← List.drop_eq_getElem_cons hl, List.take_append_drop]
theorem pwx {α : Type} {R : α → α → Prop} {l : List α} (h : l.Pairwise R) {i j : Nat} {x y : α} (hi : l[i]? = some x) (hj : l[j]? = some y) (lt : i < j) : R x y := by
  obtain ⟨h1, rfl⟩ := List.getElem?_eq_some_iff.mp hi
  obtain ⟨h2, rfl⟩ := List.getElem?_eq_some_iff.mp hj
  exact List.pairwise_iff_getElem.mp h i j h1 h2 lt
theorem walk_len {c : Int} {rs : List Rn} : (walk c rs).length = rs.length + 2 := by unfold walk; simp
theorem walk_at {c x : Int} {rs : List Rn} (can : Pm.Can c rs) (x0 : 0 ≤ x) (x1 : x < c) {j : Nat} {w : Rn} (hw : (walk c rs)[j]? = some w) (lt : ∀ i, i < j → ∀ v, (walk c rs)[i]? = some v → v.2.1 < x) (le : x ≤ w.2.1) : Pm.F c rs x = Pm.stepF w x := by
  have ok := can.1
  have c1 := ok.c1
  cases j with
  | zero =>
    obtain ⟨pre, l, rfl⟩ : ∃ pre l, rs = pre ++ [l] := by
      rcases List.eq_nil_or_concat rs with e | ⟨pre, l, e⟩
      · exact absurd e ok.ne
      · exact ⟨pre, l, by rw [e, List.concat_eq_append]⟩
    unfold walk at hw
    rw [getLastD_snoc] at hw
    cases hw
    have hl := can_rng can l (by simp)
    have le' : x ≤ l.2.1 + -c := le
    have := ok.F_at (x := x) (k := -1) (pre := pre) (post := []) (fun a ha => by
      have := ((List.pairwise_append.mp ok.pw).2.2 a ha l (by simp)).1
      omega) (by omega) (fun a ha => by
      have := can_rng can a ha
      omega)
    rw [this, Int.neg_one_mul]
  | succ j =>
    have hw' : (rs ++ [Pm.mv c (rs.headD (0, 0, 0))])[j]? = some w := hw
    have lt' : ∀ i, i < j → ∀ v, rs[i]? = some v → v.2.1 < x := fun i hi v hv => lt (i + 1) (by omega) v (by
      show (rs ++ [Pm.mv c (rs.headD (0, 0, 0))])[i]? = some v
      rw [List.getElem?_append_left (List.getElem?_eq_some_iff.mp hv).1]; exact hv)
    have l0 : ∀ a ∈ rs, a.2.1 - c < x := fun a ha => by
      have := lt 0 (by omega) _ rfl
      obtain ⟨pre, l, rfl⟩ : ∃ pre l, rs = pre ++ [l] := by
        rcases List.eq_nil_or_concat rs with e | ⟨pre, l, e⟩
        · exact absurd e ok.ne
        · exact ⟨pre, l, by rw [e, List.concat_eq_append]⟩
      rw [getLastD_snoc] at this
      have h2 := ok.lastMax a ha
      have h3 : l.2.1 + -c < x := this
      omega
    by_cases hj : j < rs.length
    · rw [List.getElem?_append_left hj] at hw'
      have e := take_get hw'
      have hp : ∀ a ∈ rs.take j, a.2.1 < x := fun a ha => by
        obtain ⟨i, hi⟩ := List.mem_iff_getElem?.mp ha
        rw [List.getElem?_take] at hi
        split at hi
        · exact lt' i (by assumption) a hi
        · cases hi
      generalize hpre : rs.take j = pre at e hp
      generalize rs.drop (j + 1) = post at e
      rw [e] at ok l0 ⊢
      have := ok.F_at (x := x) (k := 0) (pre := pre) (post := post) (fun a ha => by have := hp a ha; omega) (by omega) (fun a ha => by have := l0 a ha; omega)
      rw [this, Int.zero_mul]
      congr 1
      unfold Pm.mv; simp
    · rw [List.getElem?_append_right (by omega)] at hw'
      have hj2 : j - rs.length = 0 := by
        have := (List.getElem?_eq_some_iff.mp hw').1
        simp at this; exact this
      rw [hj2] at hw'
      cases rs with
      | nil => exact absurd rfl ok.ne
      | cons r0 t =>
        cases hw'
        have le' : x ≤ r0.2.1 + c := le
        have := ok.F_at (x := x) (k := 1) (pre := []) (post := t) (fun a ha => by cases ha) (by omega) (fun a ha => by
          obtain ⟨i, hi⟩ := List.mem_iff_getElem?.mp ha
          have hi' : (r0 :: t)[i]? = some a := hi
          have := lt' i (by have := (List.getElem?_eq_some_iff.mp hi').1; omega) a hi'
          omega)
        have this' : Pm.F c (r0 :: t) x = Pm.stepF (Pm.mv (1 * c) r0) x := this
        rw [this', Int.one_mul]
        rfl
theorem walk_last {c x : Int} {rs : List Rn} (can : Pm.Can c rs) (x1 : x < c) {w : Rn} (hw : (walk c rs)[rs.length + 1]? = some w) : x ≤ w.2.1 := by
  have hw' : (rs ++ [Pm.mv c (rs.headD (0, 0, 0))])[rs.length]? = some w := hw
  rw [List.getElem?_append_right (Nat.le_refl _), Nat.sub_self] at hw'
  cases rs with
  | nil => exact absurd rfl can.1.ne
  | cons r0 t =>
    cases hw'
    have := can_rng can r0 List.mem_cons_self
    show x ≤ r0.2.1 + c
    omega
def spArrs : Sp := fun vs H Q _ => ∃ (c : Int) (a L : Addr) (rs : List Rn) (xs : List Int), vs = [.int c, .ref a, .ref L] ∧ RnsT H a rs ∧ Pm.Can c rs ∧ c ≤ 10 ^ 30 ∧ rs.length ≤ 50000 ∧ H L = some (.lst (xs.map V.int)) ∧ xs.Pairwise (· < ·) ∧ (∀ x ∈ xs, 0 ≤ x ∧ x < c) ∧ xs.length ≤ 50000 ∧
  ∀ D H', Same H H' → H D = none → H' D = some (.lst ((xs.map (Pm.F c rs)).map V.int)) → Q (.ref D) H'
section
variable {P : Program} {w : World} {K : PySem.W.Frag} {mg : Str → Option Value} {base : Heap} {tC : Tok}
theorem ok_arrs {f f1 f2 : Addr} {fd fd1 fd2 : FuncData} (B : Blt mg tC) (Darrivals_at : Def K mg "arrivals_at" s_arrivals_at ["cycle", "runs", "starts"] f fd) (Dmoved : Def K mg "moved" s_moved ["run", "ticks"] f1 fd1) (Darrival_by_run : Def K mg "arrival_by_run" s_arrival_by_run ["run", "start"] f2 fd2) : FnOk P w K mg base CX0 2 f fd ["cycle", "runs", "starts"] spArrs := by
  have Gmoved := ok_moved (P := P) (w := w) (base := base) B Dmoved
  have Garrival_by_run := ok_arrW (P := P) (w := w) (base := base) B Darrival_by_run
  refine Darrivals_at.F.ok scarrivals_at (fun vs H Q E h => ?_) (fun cdv A outer s H vs Q E hr h => ⟨_, (pss_cons (ps_set (i := 3) scarrivals_at.nd rfl (Or.inl rfl) (pe_lst (pa_cons (pe_call Gmoved (hr.mono (by decide)) (by rfl) Dmoved.g Dmoved.F.kp Dmoved.b .nil pass0 (pa_cons (pe_ix ix_tup (pv 1) (pe_un un_neg pe_int) (fun _ _ => rfl)) (pa_cons (pe_un un_neg (pv 0)) pa_nil))) (StX.pa_star (pv 1) (pa_cons (pe_call Gmoved (hr.mono (by decide)) (by rfl) Dmoved.g Dmoved.F.kp Dmoved.b .nil pass0 (pa_cons (pe_ix ix_tup (pv 1) pe_int (fun _ _ => rfl)) (pa_cons (pv 0) pa_nil))) pa_nil)))))
  (pss_cons (ps_set (i := 4) scarrivals_at.nd rfl (Or.inl rfl) (pe_lst pa_nil))
  (pss_cons (ps_set (i := 5) scarrivals_at.nd rfl (Or.inl rfl) pe_int)
  (pss_cons (ps_for PassesOwn.never rfl (pi_list (pv 2)) (pg_name (i := 6) scarrivals_at.nd rfl (Or.inl rfl))
   (pss_cons (ps_while PassesOwn.never (pt_cmpR op_lt (pe_ix ix_tup (pe_ix ix_list (pv 3) (pv 5) (fun _ _ => rfl)) pe_int (fun _ _ => rfl)) (pv 6) (nomark _))
   (pss_one (ps_aug (i := 5) scarrivals_at.nd rfl (Or.inl rfl) pe_int ip_add)))
  (pss_one (ps_expr (pe_bm PySem.F.plainAttrs_list PySem.F.slot_list_append PySem.F.type_list_append mt_append (pv 4) (pa_cons (pe_call Garrival_by_run (hr.mono (by decide)) (by rfl) Darrival_by_run.g Darrival_by_run.F.kp Darrival_by_run.b .nil pass0 (pa_cons (pe_ix ix_list (pv 3) (pv 5) (fun _ _ => rfl)) (pa_cons (pv 6) pa_nil))) pa_nil))))))
  (pss_one (ps_ret (pv 4))))))), ?_⟩)
  · obtain ⟨c, a, L, rs, xs, rfl, _⟩ := h; rfl
  · obtain ⟨c, a, L, rs, xs, rfl, hS, can, c30, hl, hL, asc, rng, hxl, q⟩ := h
    have ok := can.1
    obtain ⟨us, ha, hU⟩ := id hS
    have lu := paired_len hU
    obtain ⟨pre, l, rfl⟩ : ∃ pre l, rs = pre ++ [l] := by
      rcases List.eq_nil_or_concat rs with e | ⟨pre, l, e⟩
      · exact absurd e ok.ne
      · exact ⟨pre, l, by rw [e, List.concat_eq_append]⟩
    obtain ⟨xp, xl, rfl, hPp, b, rfl, hb⟩ := paired_split hU
    obtain ⟨r0, hr0⟩ : ∃ r0, (pre ++ [l])[0]? = some r0 := ⟨_, List.getElem?_eq_getElem (by simp)⟩
    obtain ⟨x0, hx0⟩ : ∃ x0, (xp ++ [V.ref b])[0]? = some x0 := ⟨_, List.getElem?_eq_getElem (by simp)⟩
    obtain ⟨r0', hr0', b0, rfl, hb0⟩ := paired_at hU hx0
    rw [hr0] at hr0'
    cases hr0'
    refine ⟨_, rfl, _, rfl, a, _, _, _, rfl, rfl, SqT.of ha, atI_last _ _, _, rfl, _, rfl, b, -c, [l.1, l.2.1, l.2.2], rfl, hb, Nat.le_of_ble_eq_true rfl, fun m1 H1 s1 n1 e1 => ?_⟩
    refine ⟨_, rfl, a, _, rfl, .inl (SqT.of (s1 _ _ ha)), ?_⟩
    refine ⟨_, rfl, a, _, _, _, rfl, rfl, SqT.of (s1 _ _ ha), atI_nat (j := 0) hx0, _, rfl, b0, c, [r0.1, r0.2.1, r0.2.2], rfl, s1 _ _ hb0, Nat.le_of_ble_eq_true rfl, fun m2 H2 s2 n2 e2 => ?_⟩
    have hb2 := s2 _ _ e1
    obtain ⟨xw, exw⟩ : ∃ xw, xw = V.ref m1 :: (xp ++ [V.ref b] ++ [V.ref m2]) := ⟨_, rfl⟩
    have hXW : Paired (RnAt H2) xw (walk c (pre ++ [l])) := by
      rw [exw]
      have e0 : (pre ++ [l]).headD (0, 0, 0) = r0 := by rw [List.headD_eq_head?_getD, List.head?_eq_getElem?, hr0]; rfl
      unfold walk
      rw [getLastD_snoc, e0]
      exact .cons ⟨m1, rfl, hb2⟩ (paired_snoc (rns_mono (s1.trans s2) hU) ⟨m2, rfl, e2⟩)
    have lw := paired_len hXW
    rw [walk_len] at lw
    refine ⟨by
      have : xw.length ≤ sizeLine := by rw [lw]; exact Nat.le_trans (Nat.add_le_add_right hl 2) (by decide)
      rw [exw] at this; exact this, fun Wk hWk => ?_⟩
    refine ⟨Nat.zero_le _, fun Ar hAr => ?_⟩
    obtain ⟨H3, eH3⟩ : ∃ H3, H3 = upd H2 Wk (.lst xw) := ⟨_, rfl⟩
    rw [show (V.ref m1 :: (xp ++ [V.ref b] ++ [V.ref m2])) = xw from exw.symm, ← eH3] at hAr ⊢
    have s3 : Same H H3 := by rw [eH3]; exact (s1.trans s2).trans (Same.new hWk)
    have hW3 : H3 Wk = some (.lst xw) := by rw [eH3]; exact upd_same
    have hX3 : Paired (RnAt H3) xw (walk c (pre ++ [l])) := by rw [eH3]; exact rns_mono (Same.new hWk) hXW
    have sA : ∀ o, Same H3 (upd H3 Ar o) := fun o => Same.new hAr
    refine ⟨_, rfl, L, rfl, ⟨_, SqL.of ((sA _) _ _ (s3 _ _ hL))⟩, ?_⟩
    refine for_list (xs := xs.map V.int) (fun i σ H' => ∃ (t : Nat) (y6 : Option V), σ = [some (.int c), some (.ref a), some (.ref L), some (.ref Wk), some (.ref Ar), some (.int (t : Int)), y6] ∧ H' = upd H3 Ar (.lst (((xs.take i).map (Pm.F c (pre ++ [l]))).map V.int)) ∧ t < (pre ++ [l]).length + 2 ∧ ∀ j v, j < t → (walk c (pre ++ [l]))[j]? = some v → ∀ x ∈ xs.drop i, v.2.1 < x)
      ⟨0, none, rfl, rfl, by omega, fun j v h => by omega⟩ (fun i σ H' _ ⟨_, _, _, e, _⟩ => by rw [e]; exact SqL.of ((sA _) _ _ (s3 _ _ hL))) ?_ ?_
    · rintro i v σ H' hv ⟨t, y6, rfl, rfl, ht, hlt⟩
      rw [List.getElem?_map] at hv
      cases hn : xs[i]? with
      | none => rw [hn] at hv; cases hv
      | some x =>
        rw [hn] at hv
        cases hv
        have hi := (List.getElem?_eq_some_iff.mp hn).1
        have hx := rng x (List.mem_of_getElem? hn)
        have mx : x ∈ xs.drop i := by
          obtain ⟨h1, rfl⟩ := List.getElem?_eq_some_iff.mp hn
          rw [List.drop_eq_getElem_cons h1]; exact List.mem_cons_self
        refine ⟨fun m σ H' => ∃ t : Nat, m = (pre ++ [l]).length + 2 - t ∧ σ = [some (.int c), some (.ref a), some (.ref L), some (.ref Wk), some (.ref Ar), some (.int (t : Int)), some (.int x)] ∧ H' = upd H3 Ar (.lst (((xs.take i).map (Pm.F c (pre ++ [l]))).map V.int)) ∧ t < (pre ++ [l]).length + 2 ∧ ∀ j v, j < t → (walk c (pre ++ [l]))[j]? = some v → v.2.1 < x,
          ⟨_, t, rfl, rfl, rfl, ht, fun j v hj hv => hlt j v hj hv x mx⟩, ?_⟩
        rintro m σ H' ⟨t, rfl, rfl, rfl, ht, hlt⟩
        obtain ⟨xt, hxt⟩ : ∃ xt, xw[t]? = some xt := ⟨_, List.getElem?_eq_getElem (by omega)⟩
        obtain ⟨wt, hwt, bt, rfl, hbt⟩ := paired_at hX3 hxt
        refine ⟨_, rfl, _, rfl, Wk, _, _, _, rfl, rfl, SqL.of ((sA _) _ _ hW3), atI_nat hxt, bt, _, _, _, rfl, rfl, SqT.of ((sA _) _ _ hbt), atI_nat (j := 1) rfl, _, rfl, _, _, rfl, rfl, ?_⟩
        by_cases y : wt.2.1 < x
        · refine ⟨true, congrArg V.bl (decide_eq_true y), ?_⟩
          have l1 : t ≠ (pre ++ [l]).length + 1 := fun e => by
            subst e
            have := walk_last can hx.2 hwt
            omega
          refine ⟨fun σ' H2 => ∃ m', m' < (pre ++ [l]).length + 2 - t ∧ ∃ t : Nat, m' = (pre ++ [l]).length + 2 - t ∧ σ' = [some (.int c), some (.ref a), some (.ref L), some (.ref Wk), some (.ref Ar), some (.int (t : Int)), some (.int x)] ∧ H2 = upd H3 Ar (.lst (((xs.take i).map (Pm.F c (pre ++ [l]))).map V.int)) ∧ t < (pre ++ [l]).length + 2 ∧ ∀ j v, j < t → (walk c (pre ++ [l]))[j]? = some v → v.2.1 < x, fun _ _ n => n, ?_⟩
          refine ⟨_, rfl, _, _, rfl, rfl, (pre ++ [l]).length + 2 - (t + 1), by omega, t + 1, rfl, rfl, rfl, by omega, fun j v hj hv => ?_⟩
          by_cases e : j = t
          · subst e; rw [hwt] at hv; cases hv; exact y
          · exact hlt j v (by omega) hv
        · refine ⟨false, congrArg V.bl (decide_eq_false y), ?_⟩
          refine ⟨_, rfl, .inl ⟨rfl, _, SqL.of upd_same⟩, _, rfl, _, rfl, Wk, _, _, _, rfl, rfl, SqL.of ((sA _) _ _ hW3), atI_nat hxt, _, rfl, .ref bt, x, wt, rfl, ⟨bt, rfl, (sA _) _ _ hbt⟩, ?_⟩
          refine ⟨Ar, _, _, rfl, rfl, upd_same, smallL (by rw [List.length_map, List.length_map, List.length_take]; omega), ?_⟩
          refine ⟨t, _, rfl, ?_, ht, fun j v hj hv x' hx' => ?_⟩
          · rw [upd_upd, List.take_add_one, hn, List.map_append, List.map_append]
            rw [← walk_at can hx.1 hx.2 hwt (fun j hj v hv => hlt j v hj hv) (by omega)]
            rfl
          · have := hlt j v hj hv
            obtain ⟨k, hk⟩ := List.mem_iff_getElem?.mp hx'
            rw [List.getElem?_drop] at hk
            have := pwx asc hn hk (by omega)
            omega
    · rintro σ H' ⟨t, y6, rfl, rfl, ht, hlt⟩
      rw [List.length_map, List.take_of_length_le (Nat.le_refl _)]
      exact ⟨_, rfl, q Ar _ (s3.trans (sA _)) (Same.free s3 hAr) upd_same⟩
end
end Gr

set_option linter.all false
/-! the mathematics of what is put together: rows of a function that grows by whole cycles; parts of one cycle -/
namespace Pm
structure Mono (c : Int) (H : Int → Int) : Prop where
  c1 : 1 ≤ c
  up : ∀ x y, x ≤ y → H x ≤ H y
  per : ∀ x k : Int, H (x + k * c) = H x + k * c
theorem const_on {H : Int → Int} (up : ∀ x y, x ≤ y → H x ≤ H y) : ∀ (n : Nat) (x : Int), (∀ z, x ≤ z → z < x + n → ¬ H z < H (z + 1)) → H (x + n) = H x
  | 0, x, _ => by simp
  | n + 1, x, h => by
    have ih := const_on up n x fun z a b => h z a (by omega)
    have h1 := h (x + n) (by omega) (by omega)
    have h2 := up (x + n) (x + n + 1) (by omega)
    have e : x + ((n + 1 : Nat) : Int) = x + n + 1 := by omega
    rw [e]; omega
theorem const_to {H : Int → Int} (up : ∀ x y, x ≤ y → H x ≤ H y) {x y : Int} (l : x ≤ y) (h : ∀ z, x ≤ z → z < y → ¬ H z < H (z + 1)) : H y = H x := by
  have := const_on up (y - x).toNat x fun z a b => h z a (by omega)
  have e : x + ((y - x).toNat : Int) = y := by omega
  rw [e] at this; exact this
structure RowsOf (c : Int) (H : Int → Int) (X : List Rn) : Prop where
  ex : ∃ b : Int, (0 ≤ b ∧ b < c) ∧ (∀ r ∈ X, b ≤ r.1 ∧ r.1 ≤ r.2.1 ∧ r.2.1 < b + c) ∧ ∀ z, b ≤ z → z < b + c → H z < H (z + 1) → ∃ r ∈ X, r.1 ≤ z ∧ z ≤ r.2.1
  at' : ∀ r ∈ X, ∀ z, r.1 ≤ z → z ≤ r.2.1 → H z = r.2.2 + (z - r.1) ∧ H z < H (z + 1)
  pw : X.Pairwise fun a b => a.2.1 < b.1
theorem RowsOf.ok {c : Int} {H : Int → Int} {X : List Rn} (m : Mono c H) (h : RowsOf c H X) : Ok c X := by
  obtain ⟨b, _, hb, cov⟩ := h.ex
  have c1 := m.c1
  have e1 : ∀ r ∈ X, H r.2.1 = la r ∧ H r.2.1 < H (r.2.1 + 1) ∧ H r.1 = r.2.2 := fun r hr => by
    have := hb r hr
    have h1 := h.at' r hr r.2.1 (by omega) (by omega)
    have h2 := h.at' r hr r.1 (by omega) (by omega)
    unfold la
    exact ⟨by omega, h1.2, by omega⟩
  refine ⟨c1, fun e => ?_, fun r hr => (hb r hr).2.1, ?_, fun a ha d hd => ?_⟩
  · have h1 := const_to m.up (x := b) (y := b + c) (by omega) fun z z0 z1 gr => by
      obtain ⟨r, hr, _⟩ := cov z z0 z1 gr
      rw [e] at hr; cases hr
    have h2 := m.per b 1
    rw [Int.one_mul] at h2
    omega
  · refine h.pw.imp_of_mem fun {a d} ha hd lt => ⟨lt, ?_⟩
    have h1 := e1 a ha
    have h2 := e1 d hd
    have h3 := m.up (a.2.1 + 1) d.1 (by omega)
    omega
  · have h1 := e1 a ha
    have h2 := e1 d hd
    have ba := hb a ha
    have bd := hb d hd
    have h3 := m.up (a.2.1 + 1 + (-1) * c) d.1 (by omega)
    rw [m.per] at h3
    unfold GoesOn
    simp only [mv1, mv2, mv3, la_mv]
    omega
theorem RowsOf.G_is {c : Int} {H : Int → Int} {X : List Rn} (m : Mono c H) (h : RowsOf c H X) {z v : Int} (g : G c X z v) : v = H z ∧ H z < H (z + 1) := by
  obtain ⟨r, hr, k, h1, h2, e⟩ := g
  have ha := h.at' r hr (z - k * c) (by omega) (by omega)
  have p1 := m.per (z - k * c) k
  have p2 := m.per (z - k * c + 1) k
  have q1 : z - k * c + k * c = z := by omega
  have q2 : z - k * c + 1 + k * c = z + 1 := by omega
  rw [q1] at p1
  rw [q2] at p2
  omega
theorem RowsOf.G_of {c : Int} {H : Int → Int} {X : List Rn} (m : Mono c H) (h : RowsOf c H X) {z : Int} (g : H z < H (z + 1)) : G c X z (H z) := by
  obtain ⟨b, _, hb, cov⟩ := h.ex
  have c1 := m.c1
  have d1 := Int.emod_nonneg (z - b) (show c ≠ 0 by omega)
  have d2 := Int.emod_lt_of_pos (z - b) (show 0 < c by omega)
  have d3 := Int.mul_ediv_add_emod (z - b) c
  rw [Int.mul_comm] at d3
  generalize (z - b) / c = k at d3
  generalize (z - b) % c = q at d1 d2 d3
  have p1 := m.per (z - k * c) k
  have p2 := m.per (z - k * c + 1) k
  have q1 : z - k * c + k * c = z := by omega
  have q2 : z - k * c + 1 + k * c = z + 1 := by omega
  rw [q1] at p1
  rw [q2] at p2
  obtain ⟨r, hr, r1, r2⟩ := cov (z - k * c) (by omega) (by omega) (by omega)
  have ha := h.at' r hr _ r1 r2
  exact ⟨r, hr, k, by omega, by omega, by omega⟩
theorem RowsOf.F_eq {c : Int} {H : Int → Int} {X : List Rn} (m : Mono c H) (h : RowsOf c H X) (x : Int) : F c X x = H x := by
  obtain ⟨z, z0, gz, mz⟩ := (h.ok m).F_is x
  have h1 := h.G_is m gz
  rw [h1.1]
  exact const_to m.up z0 fun w w0 w1 gr => mz w _ w0 w1 (h.G_of m gr)
theorem Ok.F_G {c : Int} {rs : List Rn} (h : Ok c rs) {z v : Int} (g : G c rs z v) : F c rs z = v :=
  FG_eq h.fun2 ⟨z, Int.le_refl _, g, fun z' y' a b => absurd (Int.lt_of_le_of_lt a b) (Int.lt_irrefl _)⟩
/-! ### parts on which a function stays or grows by one -/
def Lin (H : Int → Int) (lo hi : Int) : Prop := (∀ x, lo ≤ x → x ≤ hi → H x = H lo) ∨ ∀ x, lo ≤ x → x ≤ hi → H x = H lo + (x - lo)
theorem Ok.lin {c : Int} {rs : List Rn} (h : Ok c rs) {lo hi : Int} (no : ∀ r ∈ rs, ∀ k : Int, ¬ (lo < r.1 + k * c ∧ r.1 + k * c ≤ hi) ∧ ¬ (lo < r.2.1 + 1 + k * c ∧ r.2.1 + 1 + k * c ≤ hi)) : Lin (F c rs) lo hi := by
  have hl := h.F_is lo
  obtain ⟨z, z0, gz, mz⟩ := id hl
  obtain ⟨r, hr, k, h1, h2, e⟩ := id gz
  obtain ⟨n1, n2⟩ := no r hr k
  have l1 : hi ≤ r.2.1 + k * c := by omega
  by_cases f : r.1 + k * c ≤ lo
  · right
    intro x x0 x1
    rw [h.F_G (z := x) ⟨r, hr, k, by omega, by omega, rfl⟩, h.F_G (z := lo) ⟨r, hr, k, by omega, by omega, rfl⟩]
    omega
  · left
    intro x x0 x1
    exact FG_eq h.fun2 ⟨z, by omega, gz, fun z' y' a b => mz z' y' (by omega) b⟩
theorem Lin.step {H : Int → Int} {lo hi x : Int} (h : Lin H lo hi) (a : lo ≤ x) (b : x + 1 ≤ hi) : (H lo = H hi ∧ H (x + 1) = H x) ∨ (H lo + (hi - lo) = H hi ∧ H (x + 1) = H x + 1) := by
  rcases h with h | h
  · left; rw [h hi (by omega) (by omega), h x (by omega) (by omega), h (x + 1) (by omega) (by omega)]; exact ⟨rfl, rfl⟩
  · right; rw [h hi (by omega) (by omega), h x (by omega) (by omega), h (x + 1) (by omega) (by omega)]; omega
def Tiles : Int → Int → List (Int × Int) → Prop
  | b, e, [] => b = e
  | b, e, p :: l => p.1 = b ∧ p.1 ≤ p.2 ∧ Tiles (p.2 + 1) e l
theorem Tiles.append : ∀ {l m : List (Int × Int)} {b d e : Int}, Tiles b d l → Tiles d e m → Tiles b e (l ++ m)
  | [], m, b, d, e, h, k => by cases h; exact k
  | p :: l, m, b, d, e, ⟨h1, h2, h3⟩, k => ⟨h1, h2, Tiles.append h3 k⟩
theorem Tiles.le : ∀ {l : List (Int × Int)} {b e : Int}, Tiles b e l → b ≤ e
  | [], b, e, h => by cases h; exact Int.le_refl _
  | p :: l, b, e, ⟨h1, h2, h3⟩ => by have := Tiles.le h3; omega
theorem Tiles.mem : ∀ {l : List (Int × Int)} {b e : Int}, Tiles b e l → ∀ p ∈ l, b ≤ p.1 ∧ p.1 ≤ p.2 ∧ p.2 < e
  | [], b, e, h, p, hp => by cases hp
  | q :: l, b, e, ⟨h1, h2, h3⟩, p, hp => by
    have := Tiles.le h3
    rcases List.mem_cons.mp hp with rfl | hp
    · omega
    · have := Tiles.mem h3 p hp; omega
abbrev Pt := Int × Int × Int × Int
abbrev Pt.ends (p : Pt) : Int × Int := (p.1, p.2.1)
def Good4 (H : Int → Int) (p : Pt) : Prop := p.2.2.1 = H p.1 ∧ p.2.2.2 = H p.2.1 ∧ Lin H p.1 p.2.1
/-- the runs of one part, with the arrival behind it -/
def ropQ (q : Pt × Int) : List Rn :=
  if (if q.1.2.2.1 < q.1.2.2.2 then q.1.1 else q.1.2.1) ≤ (if q.1.2.2.2 < q.2 then q.1.2.1 else q.1.2.1 - 1) then
    [(if q.1.2.2.1 < q.1.2.2.2 then q.1.1 else q.1.2.1, if q.1.2.2.2 < q.2 then q.1.2.1 else q.1.2.1 - 1, q.1.2.2.1)] else []
def ropZ (fin : Int) (P : List Pt) : List (Pt × Int) := P.zip ((P.drop 1).map (·.2.2.1) ++ [fin])
def ropL (c : Int) (P : List Pt) : List Rn := (ropZ ((P.headD (0, 0, 0, 0)).2.2.1 + c) P).flatMap ropQ
theorem ropZ_cons (fin : Int) (p : Pt) (P : List Pt) : ropZ fin (p :: P) = (p, (P.map (·.2.2.1)).headD fin) :: ropZ fin P := by
  cases P <;> rfl
theorem rop_one {H : Int → Int} (up : ∀ x y, x ≤ y → H x ≤ H y) {p : Pt} (le : p.1 ≤ p.2.1) (g : Good4 H p) :
    (∀ r ∈ ropQ (p, H (p.2.1 + 1)), (p.1 ≤ r.1 ∧ r.1 ≤ r.2.1 ∧ r.2.1 ≤ p.2.1) ∧ ∀ z, r.1 ≤ z → z ≤ r.2.1 → H z = r.2.2 + (z - r.1) ∧ H z < H (z + 1)) ∧
    (ropQ (p, H (p.2.1 + 1))).Pairwise (fun a b => a.2.1 < b.1) ∧ ∀ z, p.1 ≤ z → z ≤ p.2.1 → H z < H (z + 1) → ∃ r ∈ ropQ (p, H (p.2.1 + 1)), r.1 ≤ z ∧ z ≤ r.2.1 := by
  obtain ⟨lo, hi, e, l⟩ := p
  obtain ⟨g1, g2, g3⟩ := g
  have u := up hi (hi + 1) (by omega)
  simp only [] at le g1 g2 g3 ⊢
  unfold ropQ
  simp only []
  by_cases s1 : e < l <;> by_cases s2 : l < H (hi + 1) <;> (try rw [if_pos s1]) <;> (try rw [if_neg s1]) <;> (try rw [if_pos s2]) <;> (try rw [if_neg s2]) <;> (split <;> rename_i s3)
  all_goals first
    | (refine ⟨fun r hr => ?_, List.pairwise_singleton _ _, fun z z0 z1 gr => ⟨_, List.mem_singleton_self _, ?_⟩⟩
       · rw [List.mem_singleton.mp hr]
         refine ⟨by simp only []; omega, fun z z0 z1 => ?_⟩
         simp only [] at z0 z1 ⊢
         by_cases hz : z = hi
         · subst hz
           rcases g3 with g3 | g3 <;> (have k1 := g3 z (by omega) (by omega); omega)
         · rcases g3 with g3 | g3 <;> (have k1 := g3 z (by omega) (by omega); have k2 := g3 hi (by omega) (by omega); have k3 := g3 (z + 1) (by omega) (by omega); omega)
       · simp only []
         by_cases hz : z = hi
         · subst hz; omega
         · rcases g3 with g3 | g3 <;> (have k1 := g3 z (by omega) (by omega); have k2 := g3 hi (by omega) (by omega); have k3 := g3 (z + 1) (by omega) (by omega); omega))
    | (refine ⟨fun r hr => (by cases hr), List.Pairwise.nil, fun z z0 z1 gr => ?_⟩
       exfalso
       by_cases hz : z = hi
       · subst hz; omega
       · rcases g3 with g3 | g3 <;> (have k1 := g3 z (by omega) (by omega); have k2 := g3 hi (by omega) (by omega); have k3 := g3 (z + 1) (by omega) (by omega); omega))
theorem rop_all {H : Int → Int} (up : ∀ x y, x ≤ y → H x ≤ H y) : ∀ {P : List Pt} {b e : Int}, Tiles b e (P.map Pt.ends) → (∀ p ∈ P, Good4 H p) →
    (∀ r ∈ (ropZ (H e) P).flatMap ropQ, (b ≤ r.1 ∧ r.1 ≤ r.2.1 ∧ r.2.1 < e) ∧ ∀ z, r.1 ≤ z → z ≤ r.2.1 → H z = r.2.2 + (z - r.1) ∧ H z < H (z + 1)) ∧
    ((ropZ (H e) P).flatMap ropQ).Pairwise (fun a b => a.2.1 < b.1) ∧ ∀ z, b ≤ z → z < e → H z < H (z + 1) → ∃ r ∈ (ropZ (H e) P).flatMap ropQ, r.1 ≤ z ∧ z ≤ r.2.1
  | [], b, e, t, _ => by
    cases t
    exact ⟨fun r hr => (by cases hr), List.Pairwise.nil, fun z a b => by omega⟩
  | p :: P, b, e, ⟨t1, t2, t3⟩, g => by
    have ih := rop_all up t3 fun q hq => g q (List.mem_cons_of_mem _ hq)
    have le := Tiles.le t3
    have one := rop_one up (p := p) t2 (g p List.mem_cons_self)
    have e1 : (P.map (·.2.2.1)).headD (H e) = H (p.2.1 + 1) := by
      cases P with
      | nil => cases t3; rfl
      | cons q Q =>
        have gq := (g q (by simp)).1
        have : q.1 = p.2.1 + 1 := t3.1
        show q.2.2.1 = _
        rw [gq, this]
    rw [ropZ_cons, e1, List.flatMap_cons]
    have t1' : p.1 = b := t1
    have t2' : p.1 ≤ p.2.1 := t2
    have le' : p.2.1 + 1 ≤ e := le
    refine ⟨fun r hr => ?_, List.pairwise_append.mpr ⟨one.2.1, ih.2.1, fun x hx y hy => ?_⟩, fun z z0 z1 gr => ?_⟩
    · rcases List.mem_append.mp hr with hr | hr
      · have := one.1 r hr
        exact ⟨by omega, this.2⟩
      · have := ih.1 r hr
        have l1 : p.2.1 + 1 ≤ r.1 := this.1.1
        exact ⟨by omega, this.2⟩
    · have h1 := (one.1 x hx).1
      have h2 : p.2.1 + 1 ≤ y.1 := (ih.1 y hy).1.1
      omega
    · by_cases hz : z ≤ p.2.1
      · obtain ⟨r, hr, h⟩ := one.2.2 z (by omega) hz gr
        exact ⟨r, List.mem_append_left _ hr, h⟩
      · obtain ⟨r, hr, h⟩ := ih.2.2 z (by show p.2.1 + 1 ≤ z; omega) z1 gr
        exact ⟨r, List.mem_append_right _ hr, h⟩
theorem rop_rows {c : Int} {H : Int → Int} (m : Mono c H) {P : List Pt} (t : Tiles 0 c (P.map Pt.ends)) (g : ∀ p ∈ P, Good4 H p) : RowsOf c H (ropL c P) := by
  have c1 := m.c1
  have e : (P.headD (0, 0, 0, 0)).2.2.1 + c = H c := by
    cases P with
    | nil => cases t; omega
    | cons p P =>
      have h1 : p.1 = 0 := t.1
      have h2 := (g p (by simp)).1
      have h3 := m.per 0 1
      rw [Int.one_mul, Int.zero_add] at h3
      show p.2.2.1 + c = _
      rw [h2, h1, h3]
  have := rop_all m.up t g
  unfold ropL
  rw [e]
  refine ⟨⟨0, ⟨by omega, by omega⟩, fun r hr => by have := (this.1 r hr).1; omega, fun z z0 z1 gr => this.2.2 z z0 (by omega) gr⟩, fun r hr => (this.1 r hr).2, this.2.1⟩
end Pm

set_option linter.all false
/-! stretches of two functions: between neighbouring edges, parted where one overtakes the other -/
namespace Pm
abbrev R6 := Int × Int × Int × Int × Int × Int
abbrev R6.ends (r : R6) : Int × Int := (r.1, r.2.1)
def Pre6 (A B : Int → Int) (r : R6) : Prop := r.2.2.1 = A r.1 ∧ r.2.2.2.1 = A r.2.1 ∧ r.2.2.2.2.1 = B r.1 ∧ r.2.2.2.2.2 = B r.2.1 ∧ Lin A r.1 r.2.1 ∧ Lin B r.1 r.2.1
def Good6 (A B : Int → Int) (r : R6) : Prop := Pre6 A B r ∧ ((∀ x, r.1 ≤ x → x ≤ r.2.1 → A x ≤ B x) ∨ ∀ x, r.1 ≤ x → x ≤ r.2.1 → B x ≤ A x)
def mx (a b : Int) : Int := if b > a then b else a
def mn (a b : Int) : Int := if b < a then b else a
def cutQ (r : R6) : Int := r.1 + mx r.2.2.1 r.2.2.2.2.1 - mn r.2.2.1 r.2.2.2.2.1
def bhd (m a b : Int) : Int := if a < b then m + 1 else m
def Calm (r : R6) : Prop := (r.2.2.1 ≤ r.2.2.2.2.1 ∧ r.2.2.2.1 ≤ r.2.2.2.2.2) ∨ (r.2.2.1 ≥ r.2.2.2.2.1 ∧ r.2.2.2.1 ≥ r.2.2.2.2.2)
instance (r : R6) : Decidable (Calm r) := by unfold Calm; infer_instance
def partQ (r : R6) : List R6 := if Calm r then [r] else
  [(r.1, cutQ r, r.2.2.1, mx r.2.2.1 r.2.2.2.2.1, r.2.2.2.2.1, mx r.2.2.1 r.2.2.2.2.1),
   (cutQ r + 1, r.2.1, bhd (mx r.2.2.1 r.2.2.2.2.1) r.2.2.1 r.2.2.2.1, r.2.2.2.1, bhd (mx r.2.2.1 r.2.2.2.2.1) r.2.2.2.2.1 r.2.2.2.2.2, r.2.2.2.2.2)]
theorem partQ_len (r : R6) : (partQ r).length ≤ 2 := by unfold partQ; split <;> simp
theorem Lin.sub {H : Int → Int} {lo hi lo' hi' : Int} (h : Lin H lo hi) (a : lo ≤ lo') (b : hi' ≤ hi) (l : lo' ≤ hi') : Lin H lo' hi' := by
  rcases h with h | h
  · left; intro x x0 x1; rw [h x (by omega) (by omega), h lo' (by omega) (by omega)]
  · right; intro x x0 x1; rw [h x (by omega) (by omega), h lo' (by omega) (by omega)]; omega
theorem part_good {A B : Int → Int} {r : R6} (le : r.1 ≤ r.2.1) (p : Pre6 A B r) : Tiles r.1 (r.2.1 + 1) ((partQ r).map R6.ends) ∧ ∀ q ∈ partQ r, Good6 A B q := by
  obtain ⟨lo, hi, a, a', b, b'⟩ := r
  obtain ⟨p1, p2, p3, p4, pA, pB⟩ := id p
  unfold partQ
  by_cases cl : Calm (lo, hi, a, a', b, b')
  · rw [if_pos cl]
    refine ⟨⟨rfl, le, rfl⟩, fun q hq => ?_⟩
    rw [List.mem_singleton.mp hq]
    refine ⟨p, ?_⟩
    unfold Calm at cl
    simp only [] at *
    rcases cl with cl | cl
    · left
      intro x x0 x1
      rcases pA with pA | pA <;> rcases pB with pB | pB <;> (have q1 := pA x x0 x1; have q2 := pB x x0 x1; have q3 := pA hi le (Int.le_refl _); have q4 := pB hi le (Int.le_refl _); omega)
    · right
      intro x x0 x1
      rcases pA with pA | pA <;> rcases pB with pB | pB <;> (have q1 := pA x x0 x1; have q2 := pB x x0 x1; have q3 := pA hi le (Int.le_refl _); have q4 := pB hi le (Int.le_refl _); omega)
  · rw [if_neg cl]
    unfold Calm at cl
    simp only [] at *
    have hA := pA
    have hB := pB
    have d : (a < b ∧ b' < a' ∧ (∀ x, lo ≤ x → x ≤ hi → A x = a + (x - lo)) ∧ ∀ x, lo ≤ x → x ≤ hi → B x = b) ∨ (b < a ∧ a' < b' ∧ (∀ x, lo ≤ x → x ≤ hi → B x = b + (x - lo)) ∧ ∀ x, lo ≤ x → x ≤ hi → A x = a) := by
      rcases pA with pA | pA <;> rcases pB with pB | pB <;> have q3 := pA hi le (Int.le_refl _) <;> have q4 := pB hi le (Int.le_refl _)
      · exfalso; omega
      · right; exact ⟨by omega, by omega, fun x x0 x1 => by rw [pB x x0 x1, p3], fun x x0 x1 => by rw [pA x x0 x1, p1]⟩
      · left; exact ⟨by omega, by omega, fun x x0 x1 => by rw [pA x x0 x1, p1], fun x x0 x1 => by rw [pB x x0 x1, p3]⟩
      · exfalso; omega
    clear pA pB
    rcases d with ⟨d1, d2, dA, dB⟩ | ⟨d1, d2, dB, dA⟩
    · have em : mx a b = b := by unfold mx; rw [if_pos (by omega)]
      have en : mn a b = a := by unfold mn; rw [if_neg (by omega)]
      have qA := dA hi le (Int.le_refl _)
      have qB := dB hi le (Int.le_refl _)
      have e1 : bhd b a a' = b + 1 := by unfold bhd; rw [if_pos (by omega)]
      have e2 : bhd b b b' = b := by unfold bhd; rw [if_neg (by omega)]
      unfold cutQ
      simp only []
      rw [em, en, e1, e2]
      have c1 : lo ≤ lo + b - a := by omega
      have c2 : lo + b - a + 1 ≤ hi := by omega
      refine ⟨⟨rfl, c1, rfl, c2, rfl⟩, fun q hq => ?_⟩
      simp only [List.mem_cons, List.not_mem_nil, or_false] at hq
      rcases hq with rfl | rfl
      · refine ⟨⟨p1, ?_, p3, ?_, hA.sub (Int.le_refl _) (by show lo + b - a ≤ hi; omega) c1, hB.sub (Int.le_refl _) (by show lo + b - a ≤ hi; omega) c1⟩, .inl fun x x0 x1 => ?_⟩
        · show b = A (lo + b - a); rw [dA _ c1 (by omega)]; omega
        · show b = B (lo + b - a); rw [dB _ c1 (by omega)]
        · simp only [] at x0 x1; rw [dA x (by omega) (by omega), dB x (by omega) (by omega)]; omega
      · refine ⟨⟨?_, p2, ?_, p4, hA.sub (by show lo ≤ lo + b - a + 1; omega) (Int.le_refl _) c2, hB.sub (by show lo ≤ lo + b - a + 1; omega) (Int.le_refl _) c2⟩, .inr fun x x0 x1 => ?_⟩
        · show b + 1 = A (lo + b - a + 1); rw [dA _ (by omega) c2]; omega
        · show b = B (lo + b - a + 1); rw [dB _ (by omega) c2]
        · simp only [] at x0 x1; rw [dA x (by omega) (by omega), dB x (by omega) (by omega)]; omega
    · have em : mx a b = a := by unfold mx; rw [if_neg (by omega)]
      have en : mn a b = b := by unfold mn; rw [if_pos (by omega)]
      have qA := dA hi le (Int.le_refl _)
      have qB := dB hi le (Int.le_refl _)
      have e1 : bhd a a a' = a := by unfold bhd; rw [if_neg (by omega)]
      have e2 : bhd a b b' = a + 1 := by unfold bhd; rw [if_pos (by omega)]
      unfold cutQ
      simp only []
      rw [em, en, e1, e2]
      have c1 : lo ≤ lo + a - b := by omega
      have c2 : lo + a - b + 1 ≤ hi := by omega
      refine ⟨⟨rfl, c1, rfl, c2, rfl⟩, fun q hq => ?_⟩
      simp only [List.mem_cons, List.not_mem_nil, or_false] at hq
      rcases hq with rfl | rfl
      · refine ⟨⟨p1, ?_, p3, ?_, hA.sub (Int.le_refl _) (by show lo + a - b ≤ hi; omega) c1, hB.sub (Int.le_refl _) (by show lo + a - b ≤ hi; omega) c1⟩, .inr fun x x0 x1 => ?_⟩
        · show a = A (lo + a - b); rw [dA _ c1 (by omega)]
        · show a = B (lo + a - b); rw [dB _ c1 (by omega)]; omega
        · simp only [] at x0 x1; rw [dA x (by omega) (by omega), dB x (by omega) (by omega)]; omega
      · refine ⟨⟨?_, p2, ?_, p4, hA.sub (by show lo ≤ lo + a - b + 1; omega) (Int.le_refl _) c2, hB.sub (by show lo ≤ lo + a - b + 1; omega) (Int.le_refl _) c2⟩, .inl fun x x0 x1 => ?_⟩
        · show a = A (lo + a - b + 1); rw [dA _ (by omega) c2]
        · show a + 1 = B (lo + a - b + 1); rw [dB _ (by omega) c2]; omega
        · simp only [] at x0 x1; rw [dA x (by omega) (by omega), dB x (by omega) (by omega)]; omega
theorem parts_good {A B : Int → Int} : ∀ {R : List R6} {b e : Int}, Tiles b e (R.map R6.ends) → (∀ r ∈ R, Pre6 A B r) → Tiles b e ((R.flatMap partQ).map R6.ends) ∧ ∀ q ∈ R.flatMap partQ, Good6 A B q
  | [], b, e, t, _ => ⟨t, fun q hq => by cases hq⟩
  | r :: R, b, e, ⟨t1, t2, t3⟩, g => by
    have ih := parts_good t3 fun q hq => g q (List.mem_cons_of_mem _ hq)
    have one := part_good (r := r) t2 (g r List.mem_cons_self)
    rw [List.flatMap_cons, List.map_append]
    have t1' : r.1 = b := t1
    rw [t1'] at one
    refine ⟨one.1.append ih.1, fun q hq => ?_⟩
    rcases List.mem_append.mp hq with h | h
    · exact one.2 q h
    · exact ih.2 q h
def hisL (c : Int) (ms : List Int) : List Int := (ms.drop 1).map (fun x => x - 1) ++ [c - 1]
theorem hisL_len {c : Int} {ms : List Int} (h : ms ≠ []) : (hisL c ms).length = ms.length := by
  cases ms with
  | nil => exact absurd rfl h
  | cons m t => unfold hisL; simp
theorem hisL_cons (c m : Int) (t : List Int) : (m :: t).zip (hisL c (m :: t)) = (m, t.head?.elim (c - 1) (fun x => x - 1)) :: t.zip (hisL c t) := by
  cases t <;> rfl
theorem his_tiles {c : Int} : ∀ {t : List Int} {m : Int}, (m :: t).Pairwise (· < ·) → (∀ x ∈ m :: t, x < c) → Tiles m c ((m :: t).zip (hisL c (m :: t)))
  | [], m, _, h => ⟨rfl, by have := h m (by simp); show m ≤ c - 1; omega, by show c - 1 + 1 = c; omega⟩
  | x :: t, m, p, h => by
    rw [hisL_cons]
    have q := List.pairwise_cons.mp p
    have ih := his_tiles q.2 fun y hy => h y (List.mem_cons_of_mem _ hy)
    have lt := q.1 x (by simp)
    refine ⟨rfl, by show m ≤ x - 1; omega, ?_⟩
    show Tiles (x - 1 + 1) c _
    rw [show x - 1 + 1 = x by omega]
    exact ih
theorem his_no {c : Int} : ∀ {t : List Int} {m : Int}, (m :: t).Pairwise (· < ·) → ∀ p ∈ (m :: t).zip (hisL c (m :: t)), ∀ e ∈ m :: t, ¬ (p.1 < e ∧ e ≤ p.2)
  | [], m, _, p, hp, e, he => by
    have e1 := List.mem_singleton.mp he
    subst e1
    have : p = (e, c - 1) := List.mem_singleton.mp hp
    subst this
    intro h; simp only [] at h; omega
  | x :: t, m, pw, p, hp, e, he => by
    rw [hisL_cons] at hp
    have q := List.pairwise_cons.mp pw
    have ih := his_no (c := c) q.2
    rcases List.mem_cons.mp hp with rfl | hp'
    · show ¬ (m < e ∧ e ≤ x - 1)
      rcases List.mem_cons.mp he with rfl | he
      · omega
      · rcases List.mem_cons.mp he with rfl | he
        · omega
        · have := (List.pairwise_cons.mp q.2).1 e he
          omega
    · rcases List.mem_cons.mp he with rfl | he
      · have h1 : p.1 ∈ x :: t := (List.of_mem_zip (a := p.1) (b := p.2) hp').1
        have := q.1 _ h1
        omega
      · exact ih p hp' e he
def rowQ (A B : Int → Int) (p : Int × Int) : R6 := (p.1, p.2, A p.1, A p.2, B p.1, B p.2)
def rows6 (c : Int) (A B : Int → Int) (ms : List Int) : List R6 := (ms.zip (hisL c ms)).map (rowQ A B)
theorem no_edge {c lo hi e : Int} {ms : List Int} (l0 : 0 ≤ lo) (l1 : hi < c) (he : e % c ∈ ms) (no : ∀ x ∈ ms, ¬ (lo < x ∧ x ≤ hi)) (k : Int) : ¬ (lo < e + k * c ∧ e + k * c ≤ hi) := fun h => by
  refine no _ he ?_
  have : e % c = e + k * c := by
    rw [← Int.add_mul_emod_self_right e k c]
    exact Int.emod_eq_of_lt (by omega) (by omega)
  rw [this]; exact h
/-- the stretches of two passages -/
theorem str_good {c : Int} {rs rt : List Rn} (o1 : Ok c rs) (o2 : Ok c rt) {ms : List Int} (pw : ms.Pairwise (· < ·)) (z : (0 : Int) ∈ ms) (rng : ∀ x ∈ ms, 0 ≤ x ∧ x < c)
    (e1 : ∀ r ∈ rs ++ rt, r.1 % c ∈ ms ∧ (r.2.1 + 1) % c ∈ ms) :
    Tiles 0 c (((rows6 c (F c rs) (F c rt) ms).flatMap partQ).map R6.ends) ∧ ∀ q ∈ (rows6 c (F c rs) (F c rt) ms).flatMap partQ, Good6 (F c rs) (F c rt) q := by
  cases ms with
  | nil => cases z
  | cons m t =>
    have m0 : m = 0 := by
      rcases List.mem_cons.mp z with h | h
      · exact h.symm
      · have h1 := (List.pairwise_cons.mp pw).1 0 h
        have h2 := (rng m (by simp)).1
        omega
    have tl := his_tiles pw fun x hx => (rng x hx).2
    have no := his_no (c := c) pw
    subst m0
    refine parts_good ?_ fun r hr => ?_
    · unfold rows6
      rw [List.map_map]
      have : (R6.ends ∘ rowQ (F c rs) (F c rt)) = id := rfl
      rw [this, List.map_id]
      exact tl
    · obtain ⟨p, hp, rfl⟩ := List.mem_map.mp hr
      have b := tl.mem p hp
      have n := no p hp
      refine ⟨rfl, rfl, rfl, rfl, o1.lin fun r hr k => ?_, o2.lin fun r hr k => ?_⟩
      · have := e1 r (List.mem_append_left _ hr)
        exact ⟨no_edge b.1 b.2.2 this.1 n k, no_edge b.1 b.2.2 this.2 n k⟩
      · have := e1 r (List.mem_append_right _ hr)
        exact ⟨no_edge b.1 b.2.2 this.1 n k, no_edge b.1 b.2.2 this.2 n k⟩
/-- the lesser and the greater of two -/
def loQ (r : R6) : Pt := (r.1, r.2.1, mn r.2.2.1 r.2.2.2.2.1, mn r.2.2.2.1 r.2.2.2.2.2)
def hiQ (r : R6) : Pt := (r.1, r.2.1, mx r.2.2.1 r.2.2.2.2.1, mx r.2.2.2.1 r.2.2.2.2.2)
theorem lin_congr {A B : Int → Int} {lo hi : Int} (le : lo ≤ hi) (h : ∀ x, lo ≤ x → x ≤ hi → B x = A x) (g : Lin A lo hi) : Lin B lo hi := by
  rcases g with g | g
  · left; intro x x0 x1; rw [h x x0 x1, h lo (Int.le_refl _) le, g x x0 x1]
  · right; intro x x0 x1; rw [h x x0 x1, h lo (Int.le_refl _) le, g x x0 x1]
theorem lo_good {A B : Int → Int} {r : R6} (le : r.1 ≤ r.2.1) (g : Good6 A B r) : Good4 (fun x => mn (A x) (B x)) (loQ r) := by
  obtain ⟨⟨p1, p2, p3, p4, pA, pB⟩, h⟩ := g
  unfold loQ
  refine ⟨by show mn _ _ = mn _ _; rw [p1, p3], by show mn _ _ = mn _ _; rw [p2, p4], ?_⟩
  rcases h with h | h
  · refine lin_congr le (fun x x0 x1 => ?_) pA
    have := h x x0 x1
    show mn _ _ = _
    unfold mn; rw [if_neg (by omega)]
  · refine lin_congr le (fun x x0 x1 => ?_) pB
    have := h x x0 x1
    show mn _ _ = _
    unfold mn; split <;> omega
theorem hi_good {A B : Int → Int} {r : R6} (le : r.1 ≤ r.2.1) (g : Good6 A B r) : Good4 (fun x => mx (A x) (B x)) (hiQ r) := by
  obtain ⟨⟨p1, p2, p3, p4, pA, pB⟩, h⟩ := g
  unfold hiQ
  refine ⟨by show mx _ _ = mx _ _; rw [p1, p3], by show mx _ _ = mx _ _; rw [p2, p4], ?_⟩
  rcases h with h | h
  · refine lin_congr le (fun x x0 x1 => ?_) pB
    have := h x x0 x1
    show mx _ _ = _
    unfold mx; split <;> omega
  · refine lin_congr le (fun x x0 x1 => ?_) pA
    have := h x x0 x1
    show mx _ _ = _
    unfold mx; rw [if_neg (by omega)]
theorem Mono.mn {c : Int} {A B : Int → Int} (a : Mono c A) (b : Mono c B) : Mono c fun x => mn (A x) (B x) := by
  refine ⟨a.c1, fun x y h => ?_, fun x k => ?_⟩
  · have h1 := a.up x y h
    have h2 := b.up x y h
    show Pm.mn _ _ ≤ Pm.mn _ _
    unfold Pm.mn; split <;> split <;> omega
  · have h1 := a.per x k
    have h2 := b.per x k
    show Pm.mn _ _ = Pm.mn _ _ + _
    unfold Pm.mn; split <;> split <;> omega
theorem Mono.mx {c : Int} {A B : Int → Int} (a : Mono c A) (b : Mono c B) : Mono c fun x => mx (A x) (B x) := by
  refine ⟨a.c1, fun x y h => ?_, fun x k => ?_⟩
  · have h1 := a.up x y h
    have h2 := b.up x y h
    show Pm.mx _ _ ≤ Pm.mx _ _
    unfold Pm.mx; split <;> split <;> omega
  · have h1 := a.per x k
    have h2 := b.per x k
    show Pm.mx _ _ = Pm.mx _ _ + _
    unfold Pm.mx; split <;> split <;> omega
theorem Mono.comp {c : Int} {A B : Int → Int} (a : Mono c A) (b : Mono c B) : Mono c fun x => B (A x) :=
  ⟨a.c1, fun x y h => b.up _ _ (a.up _ _ h), fun x k => by show B (A (x + k * c)) = _; rw [a.per, b.per]⟩
theorem Ok.mono {c : Int} {rs : List Rn} (h : Ok c rs) : Mono c (F c rs) := by
  refine ⟨h.c1, fun x y l => ?_, fun x k => h.F_move x k⟩
  obtain ⟨z, z0, gz, mz⟩ := h.F_is x
  obtain ⟨w, w0, gw, mw⟩ := h.F_is y
  rw [← h.F_G gz, ← h.F_G gw]
  rcases Int.lt_trichotomy z w with l | l | l
  · obtain ⟨r, hr, k, a1, a2, a3⟩ := id gz
    obtain ⟨q, hq, j, b1, b2, b3⟩ := id gw
    rw [h.F_G gz, h.F_G gw]
    rcases h.tri2 hr hq k j with ⟨e1, e2⟩ | e | e
    · subst e1 e2; omega
    · have := e.2; rw [la_mv] at this; unfold la at this; simp only [mv3] at this; have := e.1; simp only [mv1, mv2] at this; omega
    · have := e.1; simp only [mv1, mv2] at this; omega
  · rw [l]; exact Int.le_refl _
  · exact absurd gw (mz w _ (by omega) l)
theorem lo_rows {c : Int} {A B : Int → Int} (a : Mono c A) (b : Mono c B) {R : List R6} (t : Tiles 0 c (R.map R6.ends)) (g : ∀ r ∈ R, Good6 A B r) : RowsOf c (fun x => mn (A x) (B x)) (ropL c (R.map loQ)) := by
  have tm := t.mem
  refine rop_rows (a.mn b) (by rw [List.map_map]; exact t) fun p hp => ?_
  obtain ⟨r, hr, rfl⟩ := List.mem_map.mp hp
  exact lo_good (tm _ (List.mem_map.mpr ⟨r, hr, rfl⟩)).2.1 (g r hr)
theorem hi_rows {c : Int} {A B : Int → Int} (a : Mono c A) (b : Mono c B) {R : List R6} (t : Tiles 0 c (R.map R6.ends)) (g : ∀ r ∈ R, Good6 A B r) : RowsOf c (fun x => mx (A x) (B x)) (ropL c (R.map hiQ)) := by
  have tm := t.mem
  refine rop_rows (a.mx b) (by rw [List.map_map]; exact t) fun p hp => ?_
  obtain ⟨r, hr, rfl⟩ := List.mem_map.mp hp
  exact hi_good (tm _ (List.mem_map.mpr ⟨r, hr, rfl⟩)).2.1 (g r hr)
end Pm

set_option Elab.async false
set_option linter.all false
set_option pp.deepTerms false
set_option pp.maxSteps 3000
set_option maxRecDepth 100000
set_option maxHeartbeats 8000000
set_option exponentiation.threshold 3000
namespace Gr
open PySem PySem.Spec PyProof.Rows L2
open Pm (Rn)
/-! ### parted, stretches -/
def i6 (r : Pm.R6) : List V := [.int r.1, .int r.2.1, .int r.2.2.1, .int r.2.2.2.1, .int r.2.2.2.2.1, .int r.2.2.2.2.2]
def R6At (H : Hp) (x : V) (r : Pm.R6) : Prop := ∃ b, x = .ref b ∧ H b = some (.tup (i6 r))
theorem R6At.mono {H H' : Hp} {x : V} {r : Pm.R6} (s : Same H H') (h : R6At H x r) : R6At H' x r := by
  obtain ⟨b, e, h⟩ := h; exact ⟨b, e, s _ _ h⟩
theorem r6_mono {H H' : Hp} (s : Same H H') {xs : List V} {rs : List Pm.R6} (h : Paired (R6At H) xs rs) : Paired (R6At H') xs rs := L2.Paired.mapP h fun _ _ r => r.mono s
def spParted : Sp := fun vs H Q _ => ∃ (x : V) (r : Pm.R6), vs = [x] ∧ R6At H x r ∧ ∀ L xs H', Same H H' → H L = none → H' L = some (.lst xs) → Paired (R6At H') xs (Pm.partQ r) → Q (.ref L) H'
section
variable {P : Program} {w : World} {K : PySem.W.Frag} {mg : Str → Option Value} {base : Heap} {tC : Tok}
theorem ok_parted {f : Addr} {fd : FuncData} (B : Blt mg tC) (Dparted : Def K mg "parted" s_parted ["stretch"] f fd) : FnOk P w K mg base CX0 1 f fd ["stretch"] spParted := by
  refine Dparted.F.ok scparted (fun vs H Q E h => ?_) (fun cdv A outer s H vs Q E hr h => ⟨_, (pss_cons (ps_asg (pv 0) (pg_tup rfl (pgs_cons (pg_name (i := 1) scparted.nd rfl (Or.inl rfl)) (pgs_cons (pg_name (i := 2) scparted.nd rfl (Or.inl rfl)) (pgs_cons (pg_name (i := 3) scparted.nd rfl (Or.inl rfl)) (pgs_cons (pg_name (i := 4) scparted.nd rfl (Or.inl rfl)) (pgs_cons (pg_name (i := 5) scparted.nd rfl (Or.inl rfl)) (pgs_cons (pg_name (i := 6) scparted.nd rfl (Or.inl rfl)) pgs_nil))))))))
  (pss_cons (ps_if (PW.pt (pw_or (PW.pt (pw_and (pt_cmpR op_le (pv 3) (pv 5) (nomark _)) (pw_and1 (pt_cmpR op_le (pv 4) (pv 6) (nomark _))))) (pw_or1 (PW.pt (pw_and (pt_cmpR op_ge (pv 3) (pv 5) (nomark _)) (pw_and1 (pt_cmpR op_ge (pv 4) (pv 6) (nomark _))))))))
   (pss_one (ps_ret (pe_lst (pa_cons (pv 0) pa_nil))))
   pss_nil)
  (pss_cons (ps_set (i := 7) scparted.nd rfl (Or.inl rfl) (pe_callB (call_max2 rfl) (by rfl) B.n_max (by decide +kernel) (pa_cons (pv 3) (pa_cons (pv 5) pa_nil))))
  (pss_cons (ps_set (i := 8) scparted.nd rfl (Or.inl rfl) (pe_op op_sub (pe_op op_add (pv 1) (pv 7)) (pe_callB (call_min2 rfl) (by rfl) B.n_min (by decide +kernel) (pa_cons (pv 3) (pa_cons (pv 5) pa_nil)))))
  (pss_cons (ps_set (i := 9) scparted.nd rfl (Or.inl rfl) (pe_ifExp (pt_cmpR op_lt (pv 3) (pv 4) (nomark _)) (pe_op op_add (pv 7) pe_int) (pv 7)))
  (pss_cons (ps_set (i := 10) scparted.nd rfl (Or.inl rfl) (pe_ifExp (pt_cmpR op_lt (pv 5) (pv 6) (nomark _)) (pe_op op_add (pv 7) pe_int) (pv 7)))
  (pss_one (ps_ret (pe_lst (pa_cons (pe_tup (pa_cons (pv 1) (pa_cons (pv 8) (pa_cons (pv 3) (pa_cons (pv 7) (pa_cons (pv 5) (pa_cons (pv 7) pa_nil))))))) (pa_cons (pe_tup (pa_cons (pe_op op_add (pv 8) pe_int) (pa_cons (pv 2) (pa_cons (pv 9) (pa_cons (pv 4) (pa_cons (pv 10) (pa_cons (pv 6) pa_nil))))))) pa_nil))))))))))), ?_⟩)
  · obtain ⟨x, r, rfl, _⟩ := h; rfl
  · obtain ⟨x, ⟨lo, hi, a, a', b, b'⟩, rfl, ⟨t, rfl, ht⟩, q⟩ := h
    refine ⟨_, rfl, t, _, rfl, SqT.of ht, rfl, _, _, rfl, _, _, rfl, _, _, rfl, _, _, rfl, _, _, rfl, _, _, rfl, rfl, ?_⟩
    have hq : ∀ (cl : ¬ Pm.Calm (lo, hi, a, a', b, b')), Pm.partQ (lo, hi, a, a', b, b') = [(lo, lo + Pm.mx a b - Pm.mn a b, a, Pm.mx a b, b, Pm.mx a b), (lo + Pm.mx a b - Pm.mn a b + 1, hi, Pm.bhd (Pm.mx a b) a a', a', Pm.bhd (Pm.mx a b) b b', b')] := fun cl => by
      unfold Pm.partQ; rw [if_neg cl]; rfl
    have hp : ∀ (cl : Pm.Calm (lo, hi, a, a', b, b')), Pm.partQ (lo, hi, a, a', b, b') = [(lo, hi, a, a', b, b')] := fun cl => by
      unfold Pm.partQ; rw [if_pos cl]
    have fin : ∀ (x9 x10 : Int), x9 = Pm.bhd (Pm.mx a b) a a' → x10 = Pm.bhd (Pm.mx a b) b b' → ¬ Pm.Calm (lo, hi, a, a', b, b') → ∀ T1 T2 L, H T1 = none → (upd H T1 (.tup (i6 (lo, lo + Pm.mx a b - Pm.mn a b, a, Pm.mx a b, b, Pm.mx a b)))) T2 = none →
        (upd (upd H T1 (.tup (i6 (lo, lo + Pm.mx a b - Pm.mn a b, a, Pm.mx a b, b, Pm.mx a b)))) T2 (.tup (i6 (lo + Pm.mx a b - Pm.mn a b + 1, hi, x9, a', x10, b')))) L = none →
        Q (.ref L) (upd (upd (upd H T1 (.tup (i6 (lo, lo + Pm.mx a b - Pm.mn a b, a, Pm.mx a b, b, Pm.mx a b)))) T2 (.tup (i6 (lo + Pm.mx a b - Pm.mn a b + 1, hi, x9, a', x10, b')))) L (.lst [.ref T1, .ref T2])) := fun x9 x10 e9 e10 cl T1 T2 L n1 n2 n3 => by
      subst e9 e10
      rw [hq cl] at q
      have g1 := Same.new n1 (o := .tup (i6 (lo, lo + Pm.mx a b - Pm.mn a b, a, Pm.mx a b, b, Pm.mx a b)))
      have g2 := Same.new n2 (o := .tup (i6 (lo + Pm.mx a b - Pm.mn a b + 1, hi, Pm.bhd (Pm.mx a b) a a', a', Pm.bhd (Pm.mx a b) b b', b')))
      have g3 := Same.new n3 (o := .lst [.ref T1, .ref T2])
      exact q L _ _ ((g1.trans g2).trans g3) (Same.free (g1.trans g2) n3) upd_same (.cons ⟨T1, rfl, g3 _ _ (g2 _ _ upd_same)⟩ (.cons ⟨T2, rfl, g3 _ _ upd_same⟩ .nil))
    refine ⟨_, rfl, _, rfl, _, _, rfl, rfl, ?_⟩
    by_cases h1 : a ≤ b
    · refine ⟨true, congrArg V.bl (decide_eq_true h1), ?_⟩
      refine ⟨_, rfl, _, rfl, _, _, rfl, rfl, ?_⟩
      by_cases h2 : a' ≤ b'
      · refine ⟨true, congrArg V.bl (decide_eq_true h2), ?_⟩
        rw [hp (Or.inl ⟨h1, h2⟩)] at q
        exact ⟨_, rfl, Nat.le_of_ble_eq_true rfl, fun L hL => q L _ _ (Same.new hL) hL upd_same (.cons ⟨t, rfl, Same.new hL _ _ ht⟩ .nil)⟩
      · refine ⟨false, congrArg V.bl (decide_eq_false h2), ?_⟩
        refine ⟨_, rfl, _, rfl, _, _, rfl, rfl, ?_⟩
        by_cases h3 : b ≤ a
        · refine ⟨true, congrArg V.bl (decide_eq_true h3), ?_⟩
          refine ⟨_, rfl, _, rfl, _, _, rfl, rfl, ?_⟩
          refine ⟨true, congrArg V.bl (decide_eq_true (show b' ≤ a' by omega)), ?_⟩
          rw [hp (Or.inr ⟨h3, by show b' ≤ a'; omega⟩)] at q
          exact ⟨_, rfl, Nat.le_of_ble_eq_true rfl, fun L hL => q L _ _ (Same.new hL) hL upd_same (.cons ⟨t, rfl, Same.new hL _ _ ht⟩ .nil)⟩
        · refine ⟨false, congrArg V.bl (decide_eq_false h3), ?_⟩
          have cl : ¬ Pm.Calm (lo, hi, a, a', b, b') := by
            unfold Pm.Calm; simp only []; omega
          refine ⟨_, rfl, _, rfl, _, _, rfl, _, rfl, _, rfl, _, _, rfl, rfl, _, rfl, _, rfl, _, _, rfl, _, _, rfl, rfl, ?_⟩
          refine ⟨_, rfl, _, rfl, _, _, rfl, rfl, ?_⟩
          by_cases z9 : a < a'
          · have e9 : Pm.mx a b + 1 = Pm.bhd (Pm.mx a b) a a' := by unfold Pm.bhd; rw [if_pos z9]
            refine ⟨true, congrArg V.bl (decide_eq_true z9), _, rfl, _, _, rfl, rfl, ?_⟩
            refine ⟨_, rfl, _, rfl, _, _, rfl, rfl, ?_⟩
            by_cases z10 : b < b'
            · have e10 : Pm.mx a b + 1 = Pm.bhd (Pm.mx a b) b b' := by unfold Pm.bhd; rw [if_pos z10]
              refine ⟨true, congrArg V.bl (decide_eq_true z10), _, rfl, _, _, rfl, rfl, ?_⟩
              refine ⟨_, rfl, _, rfl, _, rfl, _, rfl, _, rfl, _, rfl, (by show 6 ≤ sizeLine; decide), fun T1 n1 => ?_⟩
              refine ⟨_, rfl, _, _, rfl, rfl, _, rfl, _, rfl, _, rfl, _, rfl, _, rfl, (by show 6 ≤ sizeLine; decide), fun T2 n2 => ?_⟩
              exact ⟨(by show 2 ≤ sizeLine; decide), fun L n3 => fin _ _ e9 e10 cl T1 T2 L n1 n2 n3⟩
            · have e10 : Pm.mx a b = Pm.bhd (Pm.mx a b) b b' := by unfold Pm.bhd; rw [if_neg z10]
              refine ⟨false, congrArg V.bl (decide_eq_false z10), _, rfl, ?_⟩
              refine ⟨_, rfl, _, rfl, _, rfl, _, rfl, _, rfl, _, rfl, (by show 6 ≤ sizeLine; decide), fun T1 n1 => ?_⟩
              refine ⟨_, rfl, _, _, rfl, rfl, _, rfl, _, rfl, _, rfl, _, rfl, _, rfl, (by show 6 ≤ sizeLine; decide), fun T2 n2 => ?_⟩
              exact ⟨(by show 2 ≤ sizeLine; decide), fun L n3 => fin _ _ e9 e10 cl T1 T2 L n1 n2 n3⟩
          · have e9 : Pm.mx a b = Pm.bhd (Pm.mx a b) a a' := by unfold Pm.bhd; rw [if_neg z9]
            refine ⟨false, congrArg V.bl (decide_eq_false z9), _, rfl, ?_⟩
            refine ⟨_, rfl, _, rfl, _, _, rfl, rfl, ?_⟩
            by_cases z10 : b < b'
            · have e10 : Pm.mx a b + 1 = Pm.bhd (Pm.mx a b) b b' := by unfold Pm.bhd; rw [if_pos z10]
              refine ⟨true, congrArg V.bl (decide_eq_true z10), _, rfl, _, _, rfl, rfl, ?_⟩
              refine ⟨_, rfl, _, rfl, _, rfl, _, rfl, _, rfl, _, rfl, (by show 6 ≤ sizeLine; decide), fun T1 n1 => ?_⟩
              refine ⟨_, rfl, _, _, rfl, rfl, _, rfl, _, rfl, _, rfl, _, rfl, _, rfl, (by show 6 ≤ sizeLine; decide), fun T2 n2 => ?_⟩
              exact ⟨(by show 2 ≤ sizeLine; decide), fun L n3 => fin _ _ e9 e10 cl T1 T2 L n1 n2 n3⟩
            · have e10 : Pm.mx a b = Pm.bhd (Pm.mx a b) b b' := by unfold Pm.bhd; rw [if_neg z10]
              refine ⟨false, congrArg V.bl (decide_eq_false z10), _, rfl, ?_⟩
              refine ⟨_, rfl, _, rfl, _, rfl, _, rfl, _, rfl, _, rfl, (by show 6 ≤ sizeLine; decide), fun T1 n1 => ?_⟩
              refine ⟨_, rfl, _, _, rfl, rfl, _, rfl, _, rfl, _, rfl, _, rfl, _, rfl, (by show 6 ≤ sizeLine; decide), fun T2 n2 => ?_⟩
              exact ⟨(by show 2 ≤ sizeLine; decide), fun L n3 => fin _ _ e9 e10 cl T1 T2 L n1 n2 n3⟩
    · refine ⟨false, congrArg V.bl (decide_eq_false h1), ?_⟩
      refine ⟨_, rfl, _, rfl, _, _, rfl, rfl, ?_⟩
      refine ⟨true, congrArg V.bl (decide_eq_true (show b ≤ a by omega)), ?_⟩
      refine ⟨_, rfl, _, rfl, _, _, rfl, rfl, ?_⟩
      by_cases h2 : b' ≤ a'
      · refine ⟨true, congrArg V.bl (decide_eq_true h2), ?_⟩
        rw [hp (Or.inr ⟨by show b ≤ a; omega, h2⟩)] at q
        exact ⟨_, rfl, Nat.le_of_ble_eq_true rfl, fun L hL => q L _ _ (Same.new hL) hL upd_same (.cons ⟨t, rfl, Same.new hL _ _ ht⟩ .nil)⟩
      · refine ⟨false, congrArg V.bl (decide_eq_false h2), ?_⟩
        have cl : ¬ Pm.Calm (lo, hi, a, a', b, b') := by
          unfold Pm.Calm; simp only []; omega
        refine ⟨_, rfl, _, rfl, _, _, rfl, _, rfl, _, rfl, _, _, rfl, rfl, _, rfl, _, rfl, _, _, rfl, _, _, rfl, rfl, ?_⟩
        refine ⟨_, rfl, _, rfl, _, _, rfl, rfl, ?_⟩
        by_cases z9 : a < a'
        · have e9 : Pm.mx a b + 1 = Pm.bhd (Pm.mx a b) a a' := by unfold Pm.bhd; rw [if_pos z9]
          refine ⟨true, congrArg V.bl (decide_eq_true z9), _, rfl, _, _, rfl, rfl, ?_⟩
          refine ⟨_, rfl, _, rfl, _, _, rfl, rfl, ?_⟩
          by_cases z10 : b < b'
          · have e10 : Pm.mx a b + 1 = Pm.bhd (Pm.mx a b) b b' := by unfold Pm.bhd; rw [if_pos z10]
            refine ⟨true, congrArg V.bl (decide_eq_true z10), _, rfl, _, _, rfl, rfl, ?_⟩
            refine ⟨_, rfl, _, rfl, _, rfl, _, rfl, _, rfl, _, rfl, (by show 6 ≤ sizeLine; decide), fun T1 n1 => ?_⟩
            refine ⟨_, rfl, _, _, rfl, rfl, _, rfl, _, rfl, _, rfl, _, rfl, _, rfl, (by show 6 ≤ sizeLine; decide), fun T2 n2 => ?_⟩
            exact ⟨(by show 2 ≤ sizeLine; decide), fun L n3 => fin _ _ e9 e10 cl T1 T2 L n1 n2 n3⟩
          · have e10 : Pm.mx a b = Pm.bhd (Pm.mx a b) b b' := by unfold Pm.bhd; rw [if_neg z10]
            refine ⟨false, congrArg V.bl (decide_eq_false z10), _, rfl, ?_⟩
            refine ⟨_, rfl, _, rfl, _, rfl, _, rfl, _, rfl, _, rfl, (by show 6 ≤ sizeLine; decide), fun T1 n1 => ?_⟩
            refine ⟨_, rfl, _, _, rfl, rfl, _, rfl, _, rfl, _, rfl, _, rfl, _, rfl, (by show 6 ≤ sizeLine; decide), fun T2 n2 => ?_⟩
            exact ⟨(by show 2 ≤ sizeLine; decide), fun L n3 => fin _ _ e9 e10 cl T1 T2 L n1 n2 n3⟩
        · have e9 : Pm.mx a b = Pm.bhd (Pm.mx a b) a a' := by unfold Pm.bhd; rw [if_neg z9]
          refine ⟨false, congrArg V.bl (decide_eq_false z9), _, rfl, ?_⟩
          refine ⟨_, rfl, _, rfl, _, _, rfl, rfl, ?_⟩
          by_cases z10 : b < b'
          · have e10 : Pm.mx a b + 1 = Pm.bhd (Pm.mx a b) b b' := by unfold Pm.bhd; rw [if_pos z10]
            refine ⟨true, congrArg V.bl (decide_eq_true z10), _, rfl, _, _, rfl, rfl, ?_⟩
            refine ⟨_, rfl, _, rfl, _, rfl, _, rfl, _, rfl, _, rfl, (by show 6 ≤ sizeLine; decide), fun T1 n1 => ?_⟩
            refine ⟨_, rfl, _, _, rfl, rfl, _, rfl, _, rfl, _, rfl, _, rfl, _, rfl, (by show 6 ≤ sizeLine; decide), fun T2 n2 => ?_⟩
            exact ⟨(by show 2 ≤ sizeLine; decide), fun L n3 => fin _ _ e9 e10 cl T1 T2 L n1 n2 n3⟩
          · have e10 : Pm.mx a b = Pm.bhd (Pm.mx a b) b b' := by unfold Pm.bhd; rw [if_neg z10]
            refine ⟨false, congrArg V.bl (decide_eq_false z10), _, rfl, ?_⟩
            refine ⟨_, rfl, _, rfl, _, rfl, _, rfl, _, rfl, _, rfl, (by show 6 ≤ sizeLine; decide), fun T1 n1 => ?_⟩
            refine ⟨_, rfl, _, _, rfl, rfl, _, rfl, _, rfl, _, rfl, _, rfl, _, rfl, (by show 6 ≤ sizeLine; decide), fun T2 n2 => ?_⟩
            exact ⟨(by show 2 ≤ sizeLine; decide), fun L n3 => fin _ _ e9 e10 cl T1 T2 L n1 n2 n3⟩
end
end Gr

set_option Elab.async false
set_option linter.all false
set_option pp.deepTerms false
set_option pp.maxSteps 3000
set_option maxRecDepth 100000
set_option maxHeartbeats 8000000
set_option exponentiation.threshold 3000
namespace Gr
open PySem PySem.Spec PyProof.Rows L2
open Pm (Rn)
/-! ### stretches -/
theorem itl_loop {K : PySem.W.Frag} {a : Addr} {xs : List V} {Bd : V → Hp → (Hp → Prop) → Prop} {H0 : Hp} {Qd : Hp → Prop} (Pv : Nat → Hp → Prop) (h0 : Pv 0 H0) (hl : ∀ i H, i ≤ xs.length → Pv i H → SqL K H a xs)
    (hs : ∀ i x H, xs[i]? = some x → Pv i H → Bd x H (Pv (i + 1))) (hd : ∀ H, Pv xs.length H → Qd H) :
    ∃ W : Nat → Nat → Hp → Prop, (∃ m, W 0 m H0) ∧ ∀ i m H, W i m H →
      ((Itl K a).stop i H ∧ Qd H) ∨ ((Itl K a).go i H ∧ ∃ Nx : Hp → Prop, (∀ H', Nx H' → ∃ m', m' < m ∧ W (i + 1) m' H') ∧ ∀ x H', (Itl K a).yld i H x H' → Bd x H' Nx) := by
  refine ⟨fun i m H => m = xs.length - i ∧ i ≤ xs.length ∧ Pv i H, ⟨xs.length, by simp, Nat.zero_le _, h0⟩, ?_⟩
  rintro i m H ⟨rfl, hi, p⟩
  have q := hl i H hi p
  by_cases hlt : i < xs.length
  · refine .inr ⟨⟨xs, xs[i], q, by simp [hlt]⟩, Pv (i + 1), fun H' p' => ⟨xs.length - (i + 1), by omega, rfl, hlt, p'⟩, fun x H' y => ?_⟩
    obtain ⟨e, y⟩ := y
    subst e
    exact hs i x _ (y xs q) p
  · have e : i = xs.length := by omega
    subst e
    exact .inl ⟨⟨xs, q, Nat.le_refl _⟩, hd H p⟩
theorem itt_loop {K : PySem.W.Frag} {a : Addr} {xs : List V} {Bd : V → Hp → (Hp → Prop) → Prop} {H0 : Hp} {Qd : Hp → Prop} (Pv : Nat → Hp → Prop) (h0 : Pv 0 H0) (hl : ∀ i H, i ≤ xs.length → Pv i H → SqT K H a xs)
    (hs : ∀ i x H, xs[i]? = some x → Pv i H → Bd x H (Pv (i + 1))) (hd : ∀ H, Pv xs.length H → Qd H) :
    ∃ W : Nat → Nat → Hp → Prop, (∃ m, W 0 m H0) ∧ ∀ i m H, W i m H →
      ((Itt K a).stop i H ∧ Qd H) ∨ ((Itt K a).go i H ∧ ∃ Nx : Hp → Prop, (∀ H', Nx H' → ∃ m', m' < m ∧ W (i + 1) m' H') ∧ ∀ x H', (Itt K a).yld i H x H' → Bd x H' Nx) := by
  refine ⟨fun i m H => m = xs.length - i ∧ i ≤ xs.length ∧ Pv i H, ⟨xs.length, by simp, Nat.zero_le _, h0⟩, ?_⟩
  rintro i m H ⟨rfl, hi, p⟩
  have q := hl i H hi p
  by_cases hlt : i < xs.length
  · refine .inr ⟨⟨xs, xs[i], q, by simp [hlt]⟩, Pv (i + 1), fun H' p' => ⟨xs.length - (i + 1), by omega, rfl, hlt, p'⟩, fun x H' y => ?_⟩
    obtain ⟨e, y⟩ := y
    subst e
    exact hs i x _ (y xs q) p
  · have e : i = xs.length := by omega
    subst e
    exact .inl ⟨⟨xs, q, Nat.le_refl _⟩, hd H p⟩
theorem paired_append {α β : Type} {R : α → β → Prop} {xs : List α} {ys : List β} {xs' : List α} {ys' : List β} (h : Paired R xs ys) (k : Paired R xs' ys') : Paired R (xs ++ xs') (ys ++ ys') := by
  induction h with
  | nil => exact k
  | cons a _ ih => exact .cons a ih
theorem len_of_mem : ∀ {l m : List Int}, l.Pairwise (· < ·) → (∀ k ∈ l, k ∈ m) → l.length ≤ m.length
  | [], m, _, _ => Nat.zero_le _
  | a :: t, m, p, h => by
    have q := List.pairwise_cons.mp p
    have ha := h a List.mem_cons_self
    have ih := len_of_mem (m := m.erase a) q.2 fun k hk => (List.mem_erase_of_ne (by have := q.1 k hk; omega)).mpr (h k (List.mem_cons_of_mem _ hk))
    have := List.length_erase_of_mem ha
    have := List.length_pos_of_mem ha
    rw [List.length_cons]; omega
theorem cut_tl (xs : List V) (h : xs ≠ []) : cutV xs (some 1) none = xs.drop 1 := by
  unfold cutV
  have e : HT.sIx xs.length 0 (some 1) = 1 := by
    have := HT.sIx_nat xs.length 0 1
    have h1 := List.length_pos_iff.mpr h
    rw [show ((1 : Nat) : Int) = 1 from rfl] at this
    rw [this]; omega
  rw [e, HT.sIx_none, List.take_of_length_le (by rw [List.length_drop]; omega)]
theorem his_asc {c : Int} : ∀ {ms : List Int}, ms.Pairwise (· < ·) → (∀ x ∈ ms, 0 ≤ x ∧ x < c) → (Pm.hisL c ms).Pairwise (· < ·)
  | [], _, _ => List.pairwise_singleton _ _
  | m :: t, p, h => by
    have q := List.pairwise_cons.mp p
    unfold Pm.hisL
    refine List.pairwise_append.mpr ⟨?_, List.pairwise_singleton _ _, fun x hx y hy => ?_⟩
    · show (t.map _).Pairwise _
      rw [List.pairwise_map]
      exact q.2.imp fun {a b} l => by omega
    · rw [List.mem_singleton.mp hy]
      obtain ⟨z, hz, rfl⟩ := List.mem_map.mp (show x ∈ t.map _ from hx)
      have := (h z (List.mem_cons_of_mem _ hz)).2
      omega
theorem his_rng {c : Int} (c1 : 1 ≤ c) : ∀ {ms : List Int}, ms.Pairwise (· < ·) → (∀ x ∈ ms, 0 ≤ x ∧ x < c) → ∀ x ∈ Pm.hisL c ms, 0 ≤ x ∧ x < c
  | [], _, _, x, hx => by rw [List.mem_singleton.mp (show x ∈ [c - 1] from hx)]; omega
  | m :: t, p, h, x, hx => by
    have q := List.pairwise_cons.mp p
    unfold Pm.hisL at hx
    rcases List.mem_append.mp hx with hx | hx
    · obtain ⟨z, hz, rfl⟩ := List.mem_map.mp (show x ∈ t.map _ from hx)
      have h1 := h z (List.mem_cons_of_mem _ hz)
      have h2 := q.1 z hz
      have h3 := h m List.mem_cons_self
      omega
    · rw [List.mem_singleton.mp hx]; omega
theorem paired_gt {α β : Type} {R : α → β → Prop} : ∀ {xs : List α} {ys : List β}, xs.length = ys.length → (∀ (j : Nat) (x : α) (y : β), xs[j]? = some x → ys[j]? = some y → R x y) → Paired R xs ys
  | [], [], _, _ => .nil
  | x :: xs, y :: ys, l, h => .cons (h 0 x y rfl rfl) (paired_gt (by simpa using l) fun j a b ha hb => h (j + 1) a b ha hb)
  | [], _ :: _, l, _ => by simp at l
  | _ :: _, [], l, _ => by simp at l
theorem r6_upd {H : Hp} {D : Addr} {us ys : List V} {x : V} {r : Pm.R6} (hD : H D = some (.lst us)) (h : R6At H x r) : R6At (upd H D (.lst ys)) x r := by
  obtain ⟨b, e, h⟩ := h
  exact ⟨b, e, by rw [upd_ne (ne_of h hD (fun z => nomatch z))]; exact h⟩
theorem flat_len (R : List Pm.R6) : (R.flatMap Pm.partQ).length ≤ 2 * R.length := by
  induction R with
  | nil => exact Nat.le_refl _
  | cons r R ih =>
    rw [List.flatMap_cons, List.length_append, List.length_cons]
    have := Pm.partQ_len r
    omega
def edQ (c : Int) (r : Rn) : List Int := [r.1 % c, (r.2.1 + 1) % c]
def edL (c : Int) (rs : List Rn) : List Int := rs.flatMap (edQ c)
theorem edL_len (c : Int) (rs : List Rn) : (edL c rs).length = 2 * rs.length := by
  unfold edL
  induction rs with
  | nil => rfl
  | cons r rs ih => rw [List.flatMap_cons, List.length_append, ih]; simp [edQ]; omega
def spStr : Sp := fun vs H Q _ => ∃ (c : Int) (a b : Addr) (rs rt : List Rn), vs = [.int c, .ref a, .ref b] ∧ RnsT H a rs ∧ RnsT H b rt ∧ Pm.Can c rs ∧ Pm.Can c rt ∧ c ≤ 10 ^ 30 ∧ rs.length + rt.length ≤ 1900 ∧
  ∀ L xs H' (R : List Pm.R6), Same H H' → H L = none → H' L = some (.lst xs) → Paired (R6At H') xs R → Pm.Tiles 0 c (R.map Pm.R6.ends) → (∀ q ∈ R, Pm.Good6 (Pm.F c rs) (Pm.F c rt) q) → R.length ≤ 4 * (rs.length + rt.length) + 2 → (∀ r ∈ rs ++ rt, ∃ q ∈ R, q.1 = r.1 % c) → Q (.ref L) H'
theorem part_low (r : Pm.R6) : ∃ q ∈ Pm.partQ r, q.1 = r.1 := by
  unfold Pm.partQ
  split
  · exact ⟨r, List.mem_cons_self, rfl⟩
  · exact ⟨_, List.mem_cons_self, rfl⟩
theorem rows_low {c : Int} {A B : Int → Int} {ms : List Int} (ne : ms ≠ []) {x : Int} (hx : x ∈ ms) : ∃ q ∈ (Pm.rows6 c A B ms).flatMap Pm.partQ, q.1 = x := by
  obtain ⟨i, hi, e⟩ := List.getElem_of_mem hx
  have lh : (Pm.hisL c ms).length = ms.length := Pm.hisL_len ne
  have hz : (ms.zip (Pm.hisL c ms))[i]? = some (x, (Pm.hisL c ms)[i]'(by omega)) := by
    rw [List.getElem?_zip_eq_some]
    exact ⟨by rw [List.getElem?_eq_getElem hi, e], List.getElem?_eq_getElem (by omega)⟩
  obtain ⟨q, hq, eq⟩ := part_low (Pm.rowQ A B (x, (Pm.hisL c ms)[i]'(by omega)))
  refine ⟨q, List.mem_flatMap.mpr ⟨_, ?_, hq⟩, eq⟩
  unfold Pm.rows6
  exact List.mem_map.mpr ⟨_, List.mem_of_getElem? hz, rfl⟩
section
variable {P : Program} {w : World} {K : PySem.W.Frag} {mg : Str → Option Value} {base : Heap} {tC : Tok}
theorem ok_str {f f1 f2 f3 f4 : Addr} {fd fd1 fd2 fd3 fd4 : FuncData} (B : Blt mg tC) (Dstretches : Def K mg "stretches" s_stretches ["cycle", "runs", "others"] f fd) (Darrivals_at : Def K mg "arrivals_at" s_arrivals_at ["cycle", "runs", "starts"] f1 fd1) (Dparted : Def K mg "parted" s_parted ["stretch"] f2 fd2) (Dmoved : Def K mg "moved" s_moved ["run", "ticks"] f3 fd3) (Darrival_by_run : Def K mg "arrival_by_run" s_arrival_by_run ["run", "start"] f4 fd4) : FnOk P w K mg base CX0 3 f fd ["cycle", "runs", "others"] spStr := by
  have Garrivals_at := ok_arrs (P := P) (w := w) (base := base) B Darrivals_at Dmoved Darrival_by_run
  have Gparted := ok_parted (P := P) (w := w) (base := base) B Dparted
  refine Dstretches.F.ok scstretches (fun vs H Q E h => ?_) (fun cdv A outer s H vs Q E hr h => ⟨_, (pss_cons (ps_setLc2 (i := 3) (own := [("run", 4), ("edge", 5)]) (wi1 := iTup K _) (vs1 := [5]) (g := (gName 4)) (tt := tYes) (g1 := (gName 5)) (tt1 := tYes) rfl scstretches.nd rfl rfl (sw_true rfl rfl rfl (by decide +kernel)) (pi_list (pe_lst (StX.pa_star (pv 1) (StX.pa_star (pv 2) pa_nil)))) (blkOk_by (N := ["cycle", "runs", "others", "edges", "run", "edge", "lows", "highs", "low", "rows", "row", "stretch"]) (sc := defScope s_stretches) (by decide +kernel)) (by decide) (fun _ _ _ _ _ => (pg_name (i := 4) scstretches.nd rfl (Or.inl rfl))) (fun _ _ _ _ _ => pts_nil) (fun _ _ _ _ _ => (pi_tup (pe_tup (pa_cons (pe_ix (r := rIxT K) (by exact ix_tup) (pv 4) pe_int (fun _ _ => rfl)) (pa_cons (pe_op op_add (pe_ix (r := rIxT K) (by exact ix_tup) (pv 4) pe_int (fun _ _ => rfl)) pe_int) pa_nil))))) (fun _ _ _ _ _ => (pg_name (i := 5) scstretches.nd rfl (Or.inl rfl))) (fun _ _ _ _ _ => pts_nil) (fun _ _ _ _ _ => (pe_op op_modN (pv 5) (pv 0))))
  (pss_cons (ps_set (i := 6) scstretches.nd rfl (Or.inl rfl) (pe_sortSet rfl (by rfl) B.n_sorted (by rfl) B.n_set (pe_lst (pa_cons pe_int (StX.pa_star (pv 3) pa_nil)))))
  (pss_cons (ps_set (i := 7) scstretches.nd rfl (Or.inl rfl) (pe_op op_cat (pe_lc (own := [("low", 8)]) (g := (gName 8)) (tt := tYes) rfl scstretches.nd (pi_list (pe_slice sl_list (pv 6) (po_some pe_int) po_none)) (blkOk_by (N := ["cycle", "runs", "others", "edges", "run", "edge", "lows", "highs", "low", "rows", "row", "stretch"]) (sc := defScope s_stretches) (by decide +kernel)) (fun _ _ _ _ _ => (pg_name (i := 8) scstretches.nd rfl (Or.inl rfl))) (fun _ _ _ _ _ => pts_nil) (fun _ _ _ _ _ => (pe_op op_sub (pv 8) pe_int))) (pe_lst (pa_cons (pe_op op_sub (pv 0) pe_int) pa_nil))))
  (pss_cons (ps_set (i := 9) scstretches.nd rfl (Or.inl rfl) (pe_listZip6 rfl (by rfl) B.n_list (by rfl) B.n_zip (pa_cons (pv 6) (pa_cons (pv 7) (pa_cons (pe_call Garrivals_at (hr.mono (by decide)) (by rfl) Darrivals_at.g Darrivals_at.F.kp Darrivals_at.b .nil pass0 (pa_cons (pv 0) (pa_cons (pv 1) (pa_cons (pv 6) pa_nil)))) (pa_cons (pe_call Garrivals_at (hr.mono (by decide)) (by rfl) Darrivals_at.g Darrivals_at.F.kp Darrivals_at.b .nil pass0 (pa_cons (pv 0) (pa_cons (pv 1) (pa_cons (pv 7) pa_nil)))) (pa_cons (pe_call Garrivals_at (hr.mono (by decide)) (by rfl) Darrivals_at.g Darrivals_at.F.kp Darrivals_at.b .nil pass0 (pa_cons (pv 0) (pa_cons (pv 2) (pa_cons (pv 6) pa_nil)))) (pa_cons (pe_call Garrivals_at (hr.mono (by decide)) (by rfl) Darrivals_at.g Darrivals_at.F.kp Darrivals_at.b .nil pass0 (pa_cons (pv 0) (pa_cons (pv 2) (pa_cons (pv 7) pa_nil)))) pa_nil))))))))
  (pss_one (ps_ret (pe_lc2 (own := [("row", 10), ("stretch", 11)]) (wi1 := iList K _) (vs1 := [11]) (g := (gName 10)) (tt := tYes) (g1 := (gName 11)) (tt1 := tYes) rfl scstretches.nd (pi_list (pv 9)) (blkOk_by (N := ["cycle", "runs", "others", "edges", "run", "edge", "lows", "highs", "low", "rows", "row", "stretch"]) (sc := defScope s_stretches) (by decide +kernel)) (by decide) (fun _ _ _ _ _ => (pg_name (i := 10) scstretches.nd rfl (Or.inl rfl))) (fun _ _ _ _ _ => pts_nil) (fun _ _ _ _ _ => (pi_list (pe_call Gparted (hr.mono (by decide)) (by rfl) Dparted.g Dparted.F.kp Dparted.b .nil pass0 (pa_cons (pv 10) pa_nil)))) (fun _ _ _ _ _ => (pg_name (i := 11) scstretches.nd rfl (Or.inl rfl))) (fun _ _ _ _ _ => pts_nil) (fun _ _ _ _ _ => (pv 11))))))))), ?_⟩)
  · obtain ⟨c, a, b, rs, rt, rfl, _⟩ := h; rfl
  · obtain ⟨c, a, b, rs, rt, rfl, hS, hT, can, can', c30, hl, q⟩ := h
    have ok := can.1
    have ok' := can'.1
    have c1 := ok.c1
    obtain ⟨us, ha, hU⟩ := id hS
    obtain ⟨ws, hb, hW⟩ := id hT
    have lu := paired_len hU
    have lw := paired_len hW
    have hUW : Paired (RnAt H) (us ++ ws) (rs ++ rt) := paired_append hU hW
    refine ⟨_, rfl, a, _, rfl, .inl (SqT.of ha), _, rfl, b, _, rfl, .inl (SqT.of hb), ?_⟩
    have lz : (us ++ (ws ++ [])).length ≤ sizeLine := Nat.le_of_lt (smallL (by rw [List.length_append, List.length_append, List.length_nil]; omega))
    refine ⟨lz, fun La hLa => ?_⟩
    rw [List.append_nil]
    have sLa := Same.new hLa (o := .lst (us ++ ws))
    refine ⟨_, rfl, ⟨_, SqL.of upd_same⟩, fun D hD => ?_⟩
    refine itl_loop (xs := us ++ ws) (fun i H' => Same (upd H La (.lst (us ++ ws))) H' ∧ H' D = some (.lst ((edL c ((rs ++ rt).take i)).map V.int))) ⟨Same.new hD, upd_same⟩ (fun i H' _ ⟨s1, _⟩ => SqL.of (s1 _ _ upd_same)) ?_ ?_
    · rintro i x H' hx ⟨s1, e1⟩
      have hi := (List.getElem?_eq_some_iff.mp hx).1
      rw [List.length_append] at hi
      obtain ⟨r, hg, b', rfl, hb'⟩ := paired_at hUW hx
      have hb1 := s1 _ _ (sLa _ _ hb')
      refine ⟨rfl, _, rfl, ?_⟩
      have nTD : ∀ {T : Addr}, H' T = none → T ≠ D := fun hT e => by rw [e, e1] at hT; cases hT
      have nD : (upd H La (.lst (us ++ ws))) D = none := hD
      refine ⟨b', _, _, _, rfl, rfl, SqT.of hb1, atI_nat (j := 0) rfl, _, rfl, b', _, _, _, rfl, rfl, SqT.of hb1, atI_nat (j := 1) rfl, _, _, rfl, rfl, (by show 2 ≤ sizeLine; decide), fun T hT => ⟨_, rfl, ⟨_, SqT.of upd_same⟩, ?_⟩⟩
      refine itt_loop (xs := [.int r.1, .int (r.2.1 + 1)]) (fun j H2 => Same (upd H La (.lst (us ++ ws))) H2 ∧ H2 T = some (.tup [.int r.1, .int (r.2.1 + 1)]) ∧ H2 D = some (.lst ((edL c ((rs ++ rt).take i) ++ (edQ c r).take j).map V.int)))
        ⟨s1.trans (Same.new hT), upd_same, by rw [upd_ne (nTD hT).symm, List.take_zero, List.append_nil]; exact e1⟩ (fun j H2 _ ⟨_, e2, _⟩ => SqT.of e2) ?_ ?_
      · rintro j x H2 hx ⟨s2, e2, e3⟩
        have hj : j < 2 := (List.getElem?_eq_some_iff.mp hx).1
        obtain ⟨n, rfl, hn⟩ : ∃ n, x = .int n ∧ (edQ c r)[j]? = some (n % c) := by
          rcases (show j = 0 ∨ j = 1 by omega) with rfl | rfl
          · cases hx; exact ⟨_, rfl, rfl⟩
          · cases hx; exact ⟨_, rfl, rfl⟩
        refine ⟨rfl, _, rfl, _, rfl, ?_⟩
        refine ⟨n, c, rfl, rfl, by omega, _, e3, ?_, same_upd s2 nD, ?_, ?_⟩
        · rw [List.length_map, List.length_append, edL_len, List.length_take, List.length_take, List.length_append]
          refine smallL ?_
          omega
        · rw [upd_ne (fun e => by rw [e, e3] at e2; cases e2)]; exact e2
        · have hf : n.fmod c = n % c := Int.fmod_eq_emod_of_nonneg n (by omega)
          rw [upd_same, List.take_add_one, hn, ← List.append_assoc, List.map_append (l₂ := (some (n % c)).toList)]
          show some (HO.lst (_ ++ [V.int (n.fmod c)])) = _
          rw [hf]; rfl
      · rintro H2 ⟨s2, e2, e3⟩
        refine ⟨s2, ?_⟩
        have eq1 : edL c ((rs ++ rt).take (i + 1)) = edL c ((rs ++ rt).take i) ++ edQ c r := by
          unfold edL
          rw [List.take_add_one, hg, List.flatMap_append]; simp
        rw [eq1]
        exact e3
    · rintro H' ⟨s1, e1⟩
      have lx : (us ++ ws).length = (rs ++ rt).length := by rw [List.length_append, List.length_append]; omega
      rw [lx, List.take_of_length_le (Nat.le_refl _)] at e1
      have nD : (upd H La (.lst (us ++ ws))) D = none := hD
      have sD : Same H H' := sLa.trans s1
      clear hLa
      have lE : (edL c (rs ++ rt)).length ≤ 3800 := by rw [edL_len, List.length_append]; omega
      have lz2 : (V.int 0 :: ((edL c (rs ++ rt)).map V.int ++ [])).length ≤ sizeLine := Nat.le_of_lt (smallL (by rw [List.append_nil, List.length_cons, List.length_map]; omega))
      refine ⟨_, rfl, D, _, rfl, .inr (SqL.of e1), lz2, fun Lz hLz => ?_⟩
      rw [List.append_nil]
      refine ⟨Lz, 0 :: edL c (rs ++ rt), rfl, SqL.of upd_same, by rw [List.length_cons]; omega, fun M ms pw mem hM => ?_⟩
      obtain ⟨H2, eH2⟩ : ∃ H2, H2 = upd (upd H' Lz (.lst ((0 :: edL c (rs ++ rt)).map V.int))) M (.lst (ms.map V.int)) := ⟨_, rfl⟩
      have s2 : Same H H2 := by rw [eH2]; exact (sD.trans (Same.new hLz)).trans (Same.new hM)
      have hM2 : H2 M = some (.lst (ms.map V.int)) := by rw [eH2]; exact upd_same
      show gName 6 _ _ (upd (upd H' Lz (.lst ((0 :: edL c (rs ++ rt)).map V.int))) M (.lst (ms.map V.int))) _
      rw [← eH2]
      have lms : ms.length ≤ 3801 := by
        have : ms.length ≤ (0 :: edL c (rs ++ rt)).length := len_of_mem pw fun k hk => (mem k).mp hk
        rw [List.length_cons] at this; omega
      have z0 : (0 : Int) ∈ ms := (mem 0).mpr List.mem_cons_self
      have rng : ∀ x ∈ ms, 0 ≤ x ∧ x < c := fun x hx => by
        rcases List.mem_cons.mp ((mem x).mp hx) with rfl | h
        · omega
        · obtain ⟨r, hr, h⟩ := List.mem_flatMap.mp h
          simp only [edQ, List.mem_cons, List.not_mem_nil, or_false] at h
          rcases h with rfl | rfl <;> exact ⟨Int.emod_nonneg _ (by omega), Int.emod_lt_of_pos _ (by omega)⟩
      have edg : ∀ r ∈ rs ++ rt, r.1 % c ∈ ms ∧ (r.2.1 + 1) % c ∈ ms := fun r hr =>
        ⟨(mem _).mpr (List.mem_cons_of_mem _ (List.mem_flatMap.mpr ⟨r, hr, by simp [edQ]⟩)), (mem _).mpr (List.mem_cons_of_mem _ (List.mem_flatMap.mpr ⟨r, hr, by simp [edQ]⟩))⟩
      have good := Pm.str_good ok ok' pw z0 rng edg
      refine ⟨_, rfl, ?_⟩
      have ne : ms ≠ [] := fun e => by rw [e] at z0; cases z0
      refine ⟨1, rfl, M, _, rfl, SqL.of hM2, fun S hS => ?_⟩
      rw [cut_tl _ (by simpa using ne), ← List.map_drop]
      refine ⟨_, rfl, ⟨_, SqL.of upd_same⟩, fun E1 hE1 => ?_⟩
      refine lc_list (xs := (ms.drop 1).map V.int) (fun i H3 => Same (upd H2 S (.lst ((ms.drop 1).map V.int))) H3 ∧ H3 E1 = some (.lst ((((ms.drop 1).take i).map fun x => x - 1).map V.int))) ⟨Same.new hE1, upd_same⟩ (fun i H3 _ ⟨s3, _⟩ => SqL.of (s3 _ _ upd_same)) ?_ ?_
      · rintro i x H3 hx ⟨s3, e3⟩
        rw [List.getElem?_map] at hx
        cases hn : (ms.drop 1)[i]? with
        | none => rw [hn] at hx; cases hx
        | some n =>
          rw [hn] at hx
          cases hx
          refine ⟨rfl, _, rfl, _, _, rfl, rfl, _, e3, smallL ?_, same_upd s3 hE1, ?_⟩
          · rw [List.length_map, List.length_map, List.length_take, List.length_drop]; omega
          · rw [upd_same, List.take_add_one, hn, List.map_append, List.map_append]; rfl
      · rintro H3 ⟨s3, e3⟩
        rw [List.length_map, List.take_of_length_le (Nat.le_refl _)] at e3
        have sS : Same H H3 := (s2.trans (Same.new hS)).trans s3
        have hM3 : H3 M = some (.lst (ms.map V.int)) := s3 _ _ (Same.new hS _ _ hM2)
        clear s3 hS hE1
        refine ⟨_, rfl, _, _, rfl, rfl, (by show 1 ≤ sizeLine; decide), fun Z hZ => ?_⟩
        refine ⟨E1, Z, _, _, rfl, rfl, Same.new hZ _ _ e3, upd_same, Nat.le_of_lt (smallL (by rw [List.length_map, List.length_map, List.length_drop, List.length_singleton]; omega)), fun Hi hHi => ?_⟩
        have ehi : ((ms.drop 1).map fun x => x - 1).map V.int ++ [V.int (c - 1)] = (Pm.hisL c ms).map V.int := by unfold Pm.hisL; rw [List.map_append]; rfl
        obtain ⟨H4, eH4⟩ : ∃ H4, H4 = upd (upd H3 Z (.lst [V.int (c - 1)])) Hi (.lst ((Pm.hisL c ms).map V.int)) := ⟨_, rfl⟩
        have s4 : Same H H4 := by rw [eH4]; exact (sS.trans (Same.new hZ)).trans (Same.new hHi)
        have hM4 : H4 M = some (.lst (ms.map V.int)) := by rw [eH4]; exact Same.new hHi _ _ (Same.new hZ _ _ hM3)
        have hI4 : H4 Hi = some (.lst ((Pm.hisL c ms).map V.int)) := by rw [eH4]; exact upd_same
        show gName 7 _ _ (upd (upd H3 Z (.lst [V.int (c - 1)])) Hi (.lst (((ms.drop 1).map fun x => x - 1).map V.int ++ [V.int (c - 1)]))) _
        rw [ehi, ← eH4]
        have hAsc := his_asc pw rng
        have hRng := his_rng c1 pw rng
        have lhi : (Pm.hisL c ms).length = ms.length := Pm.hisL_len ne
        refine ⟨_, rfl, _, rfl, ?_⟩
        refine ⟨_, rfl, _, rfl, _, rfl, c, a, M, rs, ms, rfl, hS.mono s4, can, c30, by omega, hM4, pw, rng, by omega, fun A1 H5 s5 n5 e5 => ?_⟩
        refine ⟨_, rfl, _, rfl, _, rfl, c, a, Hi, rs, _, rfl, hS.mono (s4.trans s5), can, c30, by omega, s5 _ _ hI4, hAsc, hRng, by omega, fun A2 H6 s6 n6 e6 => ?_⟩
        refine ⟨_, rfl, _, rfl, _, rfl, c, b, M, rt, _, rfl, hT.mono ((s4.trans s5).trans s6), can', c30, by omega, s6 _ _ (s5 _ _ hM4), pw, rng, by omega, fun A3 H7 s7 n7 e7 => ?_⟩
        refine ⟨_, rfl, _, rfl, _, rfl, c, b, Hi, rt, _, rfl, hT.mono (((s4.trans s5).trans s6).trans s7), can', c30, by omega, s7 _ _ (s6 _ _ (s5 _ _ hI4)), hAsc, hRng, by omega, fun A4 H8 s8 n8 e8 => ?_⟩
        have s48 : Same H4 H8 := ((s5.trans s6).trans s7).trans s8
        refine ⟨M, Hi, A1, A2, A3, A4, ms.map V.int, (Pm.hisL c ms).map V.int, (ms.map (Pm.F c rs)).map V.int, ((Pm.hisL c ms).map (Pm.F c rs)).map V.int, (ms.map (Pm.F c rt)).map V.int, ((Pm.hisL c ms).map (Pm.F c rt)).map V.int, ms.length, rfl,
          .inl (SqL.of (s48 _ _ hM4)), .inl (SqL.of (s48 _ _ hI4)), .inl (SqL.of (s8 _ _ (s7 _ _ (s6 _ _ e5)))), .inl (SqL.of (s8 _ _ (s7 _ _ e6))), .inl (SqL.of (s8 _ _ e7)), .inl (SqL.of e8),
          by rw [List.length_map], by rw [List.length_map, lhi], by rw [List.length_map, List.length_map], by rw [List.length_map, List.length_map, lhi], by rw [List.length_map, List.length_map], by rw [List.length_map, List.length_map, lhi], fun H9 p ts zs s9 n9 e9 hp lzs hz => ?_⟩
        have sH9 : Same H H9 := (s4.trans s48).trans s9
        have l6 : (Pm.rows6 c (Pm.F c rs) (Pm.F c rt) ms).length = ms.length := by
          unfold Pm.rows6; rw [List.length_map, List.length_zip, lhi, Nat.min_self]
        have hP9 : Paired (R6At H9) (ts.map V.ref) (Pm.rows6 c (Pm.F c rs) (Pm.F c rt) ms) := by
          have lts := paired_len hp
          refine paired_gt (by rw [List.length_map, l6]; omega) fun j x r hx hr => ?_
          rw [List.getElem?_map] at hx
          obtain ⟨t, ht, rfl⟩ := Option.map_eq_some_iff.mp hx
          obtain ⟨z, hzj, htz⟩ := paired_at hp ht
          obtain ⟨u1, u2, u3, u4, u5, u6, ez, g1, g2, g3, g4, g5, g6⟩ := hz j z hzj
          unfold Pm.rows6 at hr
          rw [List.getElem?_map] at hr
          obtain ⟨q, hq, rfl⟩ := Option.map_eq_some_iff.mp hr
          obtain ⟨q1, q2⟩ := List.getElem?_zip_eq_some.mp hq
          rw [List.getElem?_map, q1] at g1
          rw [List.getElem?_map, q2] at g2
          rw [List.getElem?_map, List.getElem?_map, q1] at g3 g5
          rw [List.getElem?_map, List.getElem?_map, q2] at g4 g6
          cases g1; cases g2; cases g3; cases g4; cases g5; cases g6
          exact ⟨t, rfl, by rw [htz, ez]; rfl⟩
        have lows : ∀ r ∈ rs ++ rt, ∃ q ∈ (Pm.rows6 c (Pm.F c rs) (Pm.F c rt) ms).flatMap Pm.partQ, q.1 = r.1 % c := fun r hr => rows_low ne (edg r hr).1
        generalize Pm.rows6 c (Pm.F c rs) (Pm.F c rt) ms = R0 at hP9 l6 good lows
        have lts : (ts.map V.ref).length = R0.length := paired_len hP9
        refine ⟨_, rfl, p, rfl, ⟨_, SqL.of e9⟩, fun D2 hD2 => ?_⟩
        refine itl_loop (xs := ts.map V.ref) (fun i H' => Same H9 H' ∧ ∃ acc, H' D2 = some (.lst acc) ∧ Paired (R6At H') acc ((R0.take i).flatMap Pm.partQ)) ⟨Same.new hD2, [], upd_same, .nil⟩ (fun i H' _ ⟨s1, _⟩ => SqL.of (s1 _ _ e9)) ?_ ?_
        · rintro i x H10 hx ⟨s10, acc, eD, hA⟩
          obtain ⟨r, hg, hr6⟩ := paired_at hP9 hx
          have hi := (List.getElem?_eq_some_iff.mp hx).1
          refine ⟨rfl, _, rfl, x, r, rfl, hr6.mono s10, fun L xs H11 s11 n11 e11 hX => ?_⟩
          have nLD : D2 ≠ L := fun e => by rw [← e, eD] at n11; cases n11
          refine ⟨L, rfl, ⟨_, SqL.of e11⟩, ?_⟩
          refine itl_loop (xs := xs) (fun j H' => Same H9 H' ∧ H' L = some (.lst xs) ∧ Paired (R6At H') xs (Pm.partQ r) ∧ ∃ acc, H' D2 = some (.lst acc) ∧ Paired (R6At H') acc ((R0.take i).flatMap Pm.partQ ++ (Pm.partQ r).take j))
            ⟨s10.trans s11, e11, hX, acc, s11 _ _ eD, by rw [List.take_zero, List.append_nil]; exact r6_mono s11 hA⟩ (fun j H' _ ⟨_, e, _⟩ => SqL.of e) ?_ ?_
          · rintro j y H12 hy ⟨s12, e12, hX12, acc, eD12, hA12⟩
            obtain ⟨r', hg', hr'⟩ := paired_at hX12 hy
            have la := paired_len hA12
            have lf := flat_len (R0.take i)
            have lp := Pm.partQ_len r
            rw [List.length_append, List.length_take (l := Pm.partQ r)] at la
            rw [List.length_take] at lf
            refine ⟨rfl, _, rfl, _, eD12, smallL (by omega), same_upd s12 hD2, by rw [upd_ne nLD.symm]; exact e12, L2.Paired.mapP hX12 (fun _ _ h => r6_upd eD12 h), _, upd_same, ?_⟩
            rw [List.take_add_one, hg', ← List.append_assoc]
            exact paired_snoc (L2.Paired.mapP hA12 fun _ _ h => r6_upd eD12 h) (r6_upd eD12 hr')
          · rintro H12 ⟨s12, e12, hX12, acc, eD12, hA12⟩
            refine ⟨s12, acc, eD12, ?_⟩
            have eq1 : (R0.take (i + 1)).flatMap Pm.partQ = (R0.take i).flatMap Pm.partQ ++ Pm.partQ r := by
              rw [List.take_add_one, hg, List.flatMap_append]; simp
            rw [eq1]
            rw [paired_len hX12, List.take_of_length_le (Nat.le_refl _)] at hA12
            exact hA12
        · rintro H10 ⟨s10, acc, eD, hA⟩
          rw [lts, List.take_of_length_le (Nat.le_refl _)] at hA
          refine q D2 acc H10 _ (sH9.trans s10) (Same.free sH9 hD2) eD hA good.1 good.2 ?_ lows
          have := flat_len R0
          have := len_of_mem pw fun k hk => (mem k).mp hk
          rw [List.length_cons, edL_len, List.length_append] at this
          omega
end
end Gr

set_option Elab.async false
set_option linter.all false
set_option pp.deepTerms false
set_option pp.maxSteps 3000
set_option maxRecDepth 100000
set_option maxHeartbeats 8000000
set_option exponentiation.threshold 3000
namespace Gr
open PySem PySem.Spec PyProof.Rows L2
open Pm (Rn)
/-! ### runs_of_parts -/
def i4 (p : Pm.Pt) : List V := [.int p.1, .int p.2.1, .int p.2.2.1, .int p.2.2.2]
def PtAt (H : Hp) (x : V) (p : Pm.Pt) : Prop := ∃ b, x = .ref b ∧ H b = some (.tup (i4 p))
theorem PtAt.mono {H H' : Hp} {x : V} {r : Pm.Pt} (s : Same H H') (h : PtAt H x r) : PtAt H' x r := by
  obtain ⟨b, e, h⟩ := h; exact ⟨b, e, s _ _ h⟩
theorem pt_mono {H H' : Hp} (s : Same H H') {xs : List V} {rs : List Pm.Pt} (h : Paired (PtAt H) xs rs) : Paired (PtAt H') xs rs := L2.Paired.mapP h fun _ _ r => r.mono s
theorem ite_len {α : Type} {p : Prop} [Decidable p] (a : α) : (if p then [a] else []).length ≤ 1 := by split <;> simp
theorem ropQ_len (q : Pm.Pt × Int) : (Pm.ropQ q).length ≤ 1 := ite_len _
theorem ropF_len (R : List (Pm.Pt × Int)) : (R.flatMap Pm.ropQ).length ≤ R.length := by
  induction R with
  | nil => exact Nat.le_refl _
  | cons r R ih =>
    rw [List.flatMap_cons, List.length_append, List.length_cons]
    have := ropQ_len r
    omega
theorem rop_row {p : Pm.Pt} {x A B : Int} (e1 : (if p.2.2.1 < p.2.2.2 then p.1 else p.2.1) = A) (e2 : (if p.2.2.2 < x then p.2.1 else p.2.1 - 1) = B) : Pm.ropQ (p, x) = if A ≤ B then [(A, B, p.2.2.1)] else [] := by
  unfold Pm.ropQ
  simp only []
  rw [e1, e2]
def spRop : Sp := fun vs H Q _ => ∃ (c : Int) (L : Addr) (xs : List V) (R : List Pm.Pt), vs = [.int c, .ref L] ∧ H L = some (.lst xs) ∧ Paired (PtAt H) xs R ∧ R ≠ [] ∧ R.length ≤ 8000 ∧
  ∀ t H', Same H H' → H t = none → RnsT H' t (Pm.ropL c R) → Q (.ref t) H'
section
variable {P : Program} {w : World} {K : PySem.W.Frag} {mg : Str → Option Value} {base : Heap} {tC : Tok}
theorem ok_rop {f : Addr} {fd : FuncData} (B : Blt mg tC) (Druns_of_parts : Def K mg "runs_of_parts" s_runs_of_parts ["cycle", "parts"] f fd) : FnOk P w K mg base CX0 1 f fd ["cycle", "parts"] spRop := by
  refine Druns_of_parts.F.ok scruns_of_parts (fun vs H Q E h => ?_) (fun cdv A outer s H vs Q E hr h => ⟨_, (pss_cons (ps_set (i := 2) scruns_of_parts.nd rfl (Or.inl rfl) (pe_lst pa_nil))
  (pss_cons (ps_set (i := 3) scruns_of_parts.nd rfl (Or.inl rfl) (pe_op op_cat (pe_lc (own := [("part", 4)]) (g := (gName 4)) (tt := tYes) rfl scruns_of_parts.nd (pi_list (pe_slice sl_list (pv 1) (po_some pe_int) po_none)) (blkOk_by (N := ["cycle", "parts", "found", "reaches", "part", "low", "high", "early", "late", "reach", "first", "last"]) (sc := defScope s_runs_of_parts) (by decide +kernel)) (fun _ _ _ _ _ => (pg_name (i := 4) scruns_of_parts.nd rfl (Or.inl rfl))) (fun _ _ _ _ _ => pts_nil) (fun _ _ _ _ _ => (pe_ix (r := rIxT K) (by exact ix_tup) (pv 4) pe_int (fun _ _ => rfl)))) (pe_lst (pa_cons (pe_op op_add (pe_ix ix_tup (pe_ix ix_list (pv 1) pe_int (fun _ _ => rfl)) pe_int (fun _ _ => rfl)) (pv 0)) pa_nil))))
  (pss_cons (ps_for PassesOwn.never rfl (pi_zip (by rfl) B.n_zip (pa_cons (pv 1) (pa_cons (pv 3) pa_nil))) (pg_tup rfl (pgs_cons (pg_tup rfl (pgs_cons (pg_name (i := 5) scruns_of_parts.nd rfl (Or.inl rfl)) (pgs_cons (pg_name (i := 6) scruns_of_parts.nd rfl (Or.inl rfl)) (pgs_cons (pg_name (i := 7) scruns_of_parts.nd rfl (Or.inl rfl)) (pgs_cons (pg_name (i := 8) scruns_of_parts.nd rfl (Or.inl rfl)) pgs_nil))))) (pgs_cons (pg_name (i := 9) scruns_of_parts.nd rfl (Or.inl rfl)) pgs_nil)))
   (pss_cons (ps_set (i := 10) scruns_of_parts.nd rfl (Or.inl rfl) (pe_ifExp (pt_cmpR op_lt (pv 7) (pv 8) (nomark _)) (pv 5) (pv 6)))
  (pss_cons (ps_set (i := 11) scruns_of_parts.nd rfl (Or.inl rfl) (pe_ifExp (pt_cmpR op_lt (pv 8) (pv 9) (nomark _)) (pv 6) (pe_op op_sub (pv 6) pe_int)))
  (pss_one (ps_if (pt_cmpR op_le (pv 10) (pv 11) (nomark _))
   (pss_one (ps_expr (pe_bm PySem.F.plainAttrs_list PySem.F.slot_list_append PySem.F.type_list_append mt_append (pv 2) (pa_cons (pe_tup (pa_cons (pv 10) (pa_cons (pv 11) (pa_cons (pv 7) pa_nil)))) pa_nil))))
   pss_nil)))))
  (pss_one (ps_ret (pe_callTy call_tuple_of (by rfl) B.n_tuple (by decide +kernel) (pa_cons (pv 2) pa_nil))))))), ?_⟩)
  · obtain ⟨c, L, xs, R, rfl, _⟩ := h; rfl
  · obtain ⟨c, L, xs, R, rfl, hL, hX, ne, hl, q⟩ := h
    have lx := paired_len hX
    have nx : xs ≠ [] := fun e => ne (List.eq_nil_of_length_eq_zero (by rw [← lx, e]; rfl))
    obtain ⟨p0, hp0⟩ : ∃ p0, R[0]? = some p0 := ⟨_, List.getElem?_eq_getElem (List.length_pos_iff.mpr ne)⟩
    obtain ⟨x0, hx0⟩ : ∃ x0, xs[0]? = some x0 := ⟨_, List.getElem?_eq_getElem (List.length_pos_iff.mpr nx)⟩
    obtain ⟨p0', hp0', b0, rfl, hb0⟩ := paired_at hX hx0
    rw [hp0] at hp0'
    cases hp0'
    refine ⟨Nat.zero_le _, fun F hF => ?_⟩
    have sF := Same.new hF (o := .lst [])
    have hLF : L ≠ F := fun e => by rw [e, hF] at hL; cases hL
    refine ⟨_, rfl, 1, rfl, L, _, rfl, SqL.of (sF _ _ hL), fun S hS => ?_⟩
    rw [cut_tl _ nx]
    have sS := Same.new hS (o := .lst (xs.drop 1))
    have s1 := sF.trans sS
    refine ⟨_, rfl, ⟨_, SqL.of upd_same⟩, fun D hD => ?_⟩
    have hF1 := sS _ _ (upd_same (H := H) (a := F) (o := .lst []))
    obtain ⟨H1, eH1⟩ : ∃ H1, H1 = upd (upd H F (.lst [])) S (.lst (xs.drop 1)) := ⟨_, rfl⟩
    have hS1 : H1 S = some (.lst (xs.drop 1)) := by rw [eH1]; exact upd_same
    rw [← eH1] at hD s1 hF1 ⊢
    refine lc_list (xs := xs.drop 1) (fun i H3 => Same H1 H3 ∧ H3 D = some (.lst ((((R.drop 1).take i).map fun p => p.2.2.1).map V.int))) ⟨Same.new hD, upd_same⟩ (fun i H3 _ ⟨s3, _⟩ => SqL.of (s3 _ _ hS1)) ?_ ?_
    · rintro i x H3 hx ⟨s3, e3⟩
      have hi := (List.getElem?_eq_some_iff.mp hx).1
      rw [List.length_drop] at hi
      rw [List.getElem?_drop] at hx
      obtain ⟨p, hp, b, rfl, hb⟩ := paired_at hX hx
      have hp' : (R.drop 1)[i]? = some p := by rw [List.getElem?_drop]; exact hp
      refine ⟨rfl, _, rfl, b, _, _, _, rfl, rfl, SqT.of (s3 _ _ (s1 _ _ hb)), atI_nat (j := 2) rfl, _, e3, smallL ?_, same_upd s3 hD, ?_⟩
      · rw [List.length_map, List.length_map, List.length_take, List.length_drop]; omega
      · rw [upd_same, List.take_add_one, hp', List.map_append, List.map_append]; rfl
    · rintro H3 ⟨s3, e3⟩
      rw [List.length_drop, List.take_of_length_le (by rw [List.length_drop]; omega)] at e3
      have hF3 := s3 _ _ hF1
      have sH3 := s1.trans s3
      refine ⟨_, rfl, L, _, _, _, rfl, rfl, SqL.of (sH3 _ _ hL), atI_nat (j := 0) hx0, b0, _, _, _, rfl, rfl, SqT.of (sH3 _ _ hb0), atI_nat (j := 2) rfl, _, rfl, _, _, rfl, rfl, (by show 1 ≤ sizeLine; decide), fun Z hZ => ?_⟩
      refine ⟨D, Z, _, _, rfl, rfl, Same.new hZ _ _ e3, upd_same, Nat.le_of_lt (smallL (by rw [List.length_map, List.length_map, List.length_drop, List.length_singleton]; omega)), fun N hN => ?_⟩
      obtain ⟨H4, eH4⟩ : ∃ H4, H4 = upd (upd H3 Z (.lst [V.int (p0.2.2.1 + c)])) N (.lst ((((R.drop 1).map fun p => p.2.2.1) ++ [p0.2.2.1 + c]).map V.int)) := ⟨_, rfl⟩
      have e34 : Same H3 H4 := by rw [eH4]; exact (Same.new hZ).trans (Same.new hN)
      have hN4 : H4 N = some (.lst ((((R.drop 1).map fun p => p.2.2.1) ++ [p0.2.2.1 + c]).map V.int)) := by rw [eH4]; exact upd_same
      rw [show (((R.drop 1).map fun p => p.2.2.1).map V.int ++ [V.int (p0.2.2.1 + c)]) = ((((R.drop 1).map fun p => p.2.2.1) ++ [p0.2.2.1 + c]).map V.int) by rw [List.map_append]; rfl]
      show gName 3 _ _ (upd (upd H3 Z (.lst [V.int (p0.2.2.1 + c)])) N (.lst ((((R.drop 1).map fun p => p.2.2.1) ++ [p0.2.2.1 + c]).map V.int))) _
      rw [← eH4]
      have hF4 := e34 _ _ hF3
      have s4 := sH3.trans e34
      have eH0 : (R.headD (0, 0, 0, 0)) = p0 := by rw [List.headD_eq_head?_getD, List.head?_eq_getElem?, hp0]; rfl
      obtain ⟨zs, ezs⟩ : ∃ zs, zs = Pm.ropZ (p0.2.2.1 + c) R := ⟨_, rfl⟩
      have eL : Pm.ropL c R = zs.flatMap Pm.ropQ := by unfold Pm.ropL; rw [eH0, ezs]
      have lzs : zs.length = R.length := by
        rw [ezs]; unfold Pm.ropZ
        rw [List.length_zip, List.length_append, List.length_map, List.length_drop, List.length_singleton]; omega
      have lR1 := List.length_pos_iff.mpr ne
      have hls : xs.length = ((((R.drop 1).map fun p => p.2.2.1) ++ [p0.2.2.1 + c]).map V.int).length := by
        rw [List.length_map, List.length_append, List.length_map, List.length_drop, List.length_singleton]; omega
      have nNF : N ≠ F := fun e => by
        have h := Same.new hZ (o := .lst [V.int (p0.2.2.1 + c)]) _ _ hF3
        rw [← e, hN] at h; cases h
      refine ⟨_, rfl, _, rfl, L, N, _, _, rfl, SqL.of (s4 _ _ hL), SqL.of hN4, ?_⟩
      refine RZ.for_zipL hls (fun i σ H' => ∃ (us : List V) (y4 y5 y6 y7 y8 y9 y10 y11 : Option V), σ = [some (.int c), some (.ref L), some (.ref F), some (.ref N), y4, y5, y6, y7, y8, y9, y10, y11] ∧ Same H H' ∧ H' N = some (.lst ((((R.drop 1).map fun p => p.2.2.1) ++ [p0.2.2.1 + c]).map V.int)) ∧ H' F = some (.lst us) ∧ Paired (RnAt H') us ((zs.take i).flatMap Pm.ropQ))
        ⟨[], _, _, _, _, _, _, _, _, rfl, s4, hN4, hF4, .nil⟩ (fun i σ H' ⟨_, _, _, _, _, _, _, _, _, _, s5, hN5, _⟩ => ⟨SqL.of (s5 _ _ hL), SqL.of hN5⟩) ?_ ?_
      · rintro i x y T σ H5 hx hy ⟨us, y4, y5, y6, y7, y8, y9, y10, y11, rfl, s5, hN5, hF5, hU⟩ hT
        obtain ⟨p, hp, b, rfl, hb⟩ := paired_at hX hx
        rw [List.getElem?_map] at hy
        obtain ⟨x9, hx9, rfl⟩ := Option.map_eq_some_iff.mp hy
        have hz : zs[i]? = some (p, x9) := by rw [ezs]; unfold Pm.ropZ; exact List.getElem?_zip_eq_some.mpr ⟨hp, hx9⟩
        have hi := (List.getElem?_eq_some_iff.mp hz).1
        have sT := Same.new hT (o := .tup [.ref b, .int x9])
        have s6 := s5.trans sT
        have hN6 := sT _ _ hN5
        have hF6 := sT _ _ hF5
        have hU6 := rns_mono sT hU
        have hb6 := s6 _ _ hb
        have lU := paired_len hU
        have lU2 := ropF_len (zs.take i)
        rw [List.length_take] at lU2
        have eq1 : (zs.take (i + 1)).flatMap Pm.ropQ = (zs.take i).flatMap Pm.ropQ ++ Pm.ropQ (p, x9) := by
          rw [List.take_add_one, hz, List.flatMap_append]; simp
        refine ⟨T, _, rfl, SqT.of upd_same, rfl, _, _, rfl, b, _, rfl, SqT.of hb6, rfl, _, _, rfl, _, _, rfl, _, _, rfl, _, _, rfl, rfl, _, _, rfl, rfl, ?_⟩
        refine ⟨_, rfl, _, rfl, _, _, rfl, rfl, ?_⟩
        by_cases z1 : p.2.2.1 < p.2.2.2
        · refine ⟨true, congrArg V.bl (decide_eq_true z1), _, rfl, ?_⟩
          refine ⟨_, rfl, _, rfl, _, _, rfl, rfl, ?_⟩
          by_cases z2 : p.2.2.2 < x9
          · refine ⟨true, congrArg V.bl (decide_eq_true z2), _, rfl, ?_⟩
            have eQ := rop_row (p := p) (x := x9) (A := p.1) (B := p.2.1) (by first | exact if_pos z1 | exact if_neg z1) (by first | exact if_pos z2 | exact if_neg z2)
            refine ⟨_, rfl, _, rfl, _, _, rfl, rfl, ?_⟩
            by_cases z3 : p.1 ≤ p.2.1
            · refine ⟨true, congrArg V.bl (decide_eq_true z3), ?_⟩
              rw [if_pos z3] at eQ
              refine ⟨_, rfl, .inl ⟨rfl, _, SqL.of hF6⟩, _, rfl, _, rfl, _, rfl, (by show 3 ≤ sizeLine; decide), fun T2 hT2 => ?_⟩
              refine ⟨F, us, _, rfl, rfl, Same.new hT2 _ _ hF6, smallL (by omega), ?_⟩
              refine ⟨_, _, _, _, _, _, _, _, _, rfl, app_same (us := us) hF s6 hT2, app_list (us := us) hT2 hN6 nNF, upd_same, ?_⟩
              rw [eq1, eQ]
              exact app_row hF6 hT2 hU6 (p.1, p.2.1, p.2.2.1)
            · refine ⟨false, congrArg V.bl (decide_eq_false z3), ?_⟩
              rw [if_neg z3] at eQ
              refine ⟨_, _, _, _, _, _, _, _, _, rfl, s6, hN6, hF6, ?_⟩
              rw [eq1, eQ, List.append_nil]
              exact hU6
          · refine ⟨false, congrArg V.bl (decide_eq_false z2), _, rfl, _, _, rfl, rfl, ?_⟩
            have eQ := rop_row (p := p) (x := x9) (A := p.1) (B := (p.2.1 - 1)) (by first | exact if_pos z1 | exact if_neg z1) (by first | exact if_pos z2 | exact if_neg z2)
            refine ⟨_, rfl, _, rfl, _, _, rfl, rfl, ?_⟩
            by_cases z3 : p.1 ≤ (p.2.1 - 1)
            · refine ⟨true, congrArg V.bl (decide_eq_true z3), ?_⟩
              rw [if_pos z3] at eQ
              refine ⟨_, rfl, .inl ⟨rfl, _, SqL.of hF6⟩, _, rfl, _, rfl, _, rfl, (by show 3 ≤ sizeLine; decide), fun T2 hT2 => ?_⟩
              refine ⟨F, us, _, rfl, rfl, Same.new hT2 _ _ hF6, smallL (by omega), ?_⟩
              refine ⟨_, _, _, _, _, _, _, _, _, rfl, app_same (us := us) hF s6 hT2, app_list (us := us) hT2 hN6 nNF, upd_same, ?_⟩
              rw [eq1, eQ]
              exact app_row hF6 hT2 hU6 (p.1, (p.2.1 - 1), p.2.2.1)
            · refine ⟨false, congrArg V.bl (decide_eq_false z3), ?_⟩
              rw [if_neg z3] at eQ
              refine ⟨_, _, _, _, _, _, _, _, _, rfl, s6, hN6, hF6, ?_⟩
              rw [eq1, eQ, List.append_nil]
              exact hU6
        · refine ⟨false, congrArg V.bl (decide_eq_false z1), _, rfl, ?_⟩
          refine ⟨_, rfl, _, rfl, _, _, rfl, rfl, ?_⟩
          by_cases z2 : p.2.2.2 < x9
          · refine ⟨true, congrArg V.bl (decide_eq_true z2), _, rfl, ?_⟩
            have eQ := rop_row (p := p) (x := x9) (A := p.2.1) (B := p.2.1) (by first | exact if_pos z1 | exact if_neg z1) (by first | exact if_pos z2 | exact if_neg z2)
            refine ⟨_, rfl, _, rfl, _, _, rfl, rfl, ?_⟩
            by_cases z3 : p.2.1 ≤ p.2.1
            · refine ⟨true, congrArg V.bl (decide_eq_true z3), ?_⟩
              rw [if_pos z3] at eQ
              refine ⟨_, rfl, .inl ⟨rfl, _, SqL.of hF6⟩, _, rfl, _, rfl, _, rfl, (by show 3 ≤ sizeLine; decide), fun T2 hT2 => ?_⟩
              refine ⟨F, us, _, rfl, rfl, Same.new hT2 _ _ hF6, smallL (by omega), ?_⟩
              refine ⟨_, _, _, _, _, _, _, _, _, rfl, app_same (us := us) hF s6 hT2, app_list (us := us) hT2 hN6 nNF, upd_same, ?_⟩
              rw [eq1, eQ]
              exact app_row hF6 hT2 hU6 (p.2.1, p.2.1, p.2.2.1)
            · refine ⟨false, congrArg V.bl (decide_eq_false z3), ?_⟩
              rw [if_neg z3] at eQ
              refine ⟨_, _, _, _, _, _, _, _, _, rfl, s6, hN6, hF6, ?_⟩
              rw [eq1, eQ, List.append_nil]
              exact hU6
          · refine ⟨false, congrArg V.bl (decide_eq_false z2), _, rfl, _, _, rfl, rfl, ?_⟩
            have eQ := rop_row (p := p) (x := x9) (A := p.2.1) (B := (p.2.1 - 1)) (by first | exact if_pos z1 | exact if_neg z1) (by first | exact if_pos z2 | exact if_neg z2)
            refine ⟨_, rfl, _, rfl, _, _, rfl, rfl, ?_⟩
            by_cases z3 : p.2.1 ≤ (p.2.1 - 1)
            · refine ⟨true, congrArg V.bl (decide_eq_true z3), ?_⟩
              rw [if_pos z3] at eQ
              refine ⟨_, rfl, .inl ⟨rfl, _, SqL.of hF6⟩, _, rfl, _, rfl, _, rfl, (by show 3 ≤ sizeLine; decide), fun T2 hT2 => ?_⟩
              refine ⟨F, us, _, rfl, rfl, Same.new hT2 _ _ hF6, smallL (by omega), ?_⟩
              refine ⟨_, _, _, _, _, _, _, _, _, rfl, app_same (us := us) hF s6 hT2, app_list (us := us) hT2 hN6 nNF, upd_same, ?_⟩
              rw [eq1, eQ]
              exact app_row hF6 hT2 hU6 (p.2.1, (p.2.1 - 1), p.2.2.1)
            · refine ⟨false, congrArg V.bl (decide_eq_false z3), ?_⟩
              rw [if_neg z3] at eQ
              refine ⟨_, _, _, _, _, _, _, _, _, rfl, s6, hN6, hF6, ?_⟩
              rw [eq1, eQ, List.append_nil]
              exact hU6
      · rintro σ H5 ⟨us, y4, y5, y6, y7, y8, y9, y10, y11, rfl, s5, hN5, hF5, hU⟩
        rw [show xs.length = zs.length by omega, List.take_of_length_le (Nat.le_refl _), ← eL] at hU
        refine ⟨_, rfl, F, us, rfl, .inl ⟨SqL.of hF5, fun l hl' => ?_⟩⟩
        exact q l _ (s5.trans (Same.new hl')) (Same.free s5 hl') ⟨us, upd_same, rns_mono (Same.new hl') hU⟩
end
end Gr

set_option Elab.async false
set_option linter.all false
set_option pp.deepTerms false
set_option pp.maxSteps 3000
set_option maxRecDepth 100000
set_option maxHeartbeats 8000000
set_option exponentiation.threshold 3000
namespace Gr
open PySem PySem.Spec PyProof.Rows L2
open Pm (Rn)
/-! ### the sooner and both -/
def spPut (op : Int → Int → Int) : Sp := fun vs H Q _ => ∃ (c : Int) (a b : Addr) (rs rt : List Rn), vs = [.int c, .ref a, .ref b] ∧ RnsT H a rs ∧ RnsT H b rt ∧ Pm.Can c rs ∧ Pm.Can c rt ∧ c ≤ 10 ^ 30 ∧ rs.length + rt.length ≤ 1900 ∧
  ∀ t H' X, Same H H' → H t = none → RnsT H' t X → Pm.RowsOf c (fun x => op (Pm.F c rs x) (Pm.F c rt x)) X → X.length ≤ 4 * (rs.length + rt.length) + 2 → Q (.ref t) H'
theorem ropL_len (c : Int) (P : List Pm.Pt) : (Pm.ropL c P).length ≤ P.length := by
  unfold Pm.ropL
  refine Nat.le_trans (ropF_len _) ?_
  unfold Pm.ropZ
  rw [List.length_zip]; exact Nat.min_le_left _ _
theorem pt_upd {H : Hp} {D : Addr} {us ys : List V} {x : V} {r : Pm.Pt} (hD : H D = some (.lst us)) (h : PtAt H x r) : PtAt (upd H D (.lst ys)) x r := by
  obtain ⟨b, e, h⟩ := h
  exact ⟨b, e, by rw [upd_ne (ne_of h hD (fun z => nomatch z))]; exact h⟩
theorem tiles_ne {b e : Int} {R : List Pm.R6} (h : b < e) (t : Pm.Tiles b e (R.map Pm.R6.ends)) : R ≠ [] := fun z => by
  subst z; cases t; omega
section
variable {P : Program} {w : World} {K : PySem.W.Frag} {mg : Str → Option Value} {base : Heap} {tC : Tok}
theorem ok_sooner {f f1 f2 f3 f4 f5 f6 : Addr} {fd fd1 fd2 fd3 fd4 fd5 fd6 : FuncData} (B : Blt mg tC) (Dsooner_runs : Def K mg "sooner_runs" s_sooner_runs ["cycle", "runs", "others"] f fd) (Dstretches : Def K mg "stretches" s_stretches ["cycle", "runs", "others"] f1 fd1) (Druns_of_parts : Def K mg "runs_of_parts" s_runs_of_parts ["cycle", "parts"] f2 fd2) (Darrivals_at : Def K mg "arrivals_at" s_arrivals_at ["cycle", "runs", "starts"] f3 fd3) (Dparted : Def K mg "parted" s_parted ["stretch"] f4 fd4) (Dmoved : Def K mg "moved" s_moved ["run", "ticks"] f5 fd5) (Darrival_by_run : Def K mg "arrival_by_run" s_arrival_by_run ["run", "start"] f6 fd6) : FnOk P w K mg base CX0 4 f fd ["cycle", "runs", "others"] (spPut Pm.mn) := by
  have Gstretches := ok_str (P := P) (w := w) (base := base) B Dstretches Darrivals_at Dparted Dmoved Darrival_by_run
  have Gruns_of_parts := ok_rop (P := P) (w := w) (base := base) B Druns_of_parts
  refine Dsooner_runs.F.ok scsooner_runs (fun vs H Q E h => ?_) (fun cdv A outer s H vs Q E hr h => ⟨_, (pss_cons (ps_set (i := 3) scsooner_runs.nd rfl (Or.inl rfl) (pe_call Gstretches (hr.mono (by decide)) (by rfl) Dstretches.g Dstretches.F.kp Dstretches.b .nil pass0 (pa_cons (pv 0) (pa_cons (pv 1) (pa_cons (pv 2) pa_nil)))))
  (pss_one (ps_ret (pe_call Gruns_of_parts (hr.mono (by decide)) (by rfl) Druns_of_parts.g Druns_of_parts.F.kp Druns_of_parts.b .nil pass0 (pa_cons (pv 0) (pa_cons (pe_lc (own := [("row", 4)]) (g := (gName 4)) (tt := tYes) rfl scsooner_runs.nd (pi_list (pv 3)) (blkOk_by (N := ["cycle", "runs", "others", "rows", "row"]) (sc := defScope s_sooner_runs) (by decide +kernel)) (fun _ _ _ _ _ => (pg_name (i := 4) scsooner_runs.nd rfl (Or.inl rfl))) (fun _ _ _ _ _ => pts_nil) (fun _ _ _ _ _ => (pe_tup (pa_cons (pe_ix (r := rIxT K) (by exact ix_tup) (pv 4) pe_int (fun _ _ => rfl)) (pa_cons (pe_ix (r := rIxT K) (by exact ix_tup) (pv 4) pe_int (fun _ _ => rfl)) (pa_cons (pe_callB (call_min2 rfl) (by rfl) B.n_min (by decide +kernel) (pa_cons (pe_ix (r := rIxT K) (by exact ix_tup) (pv 4) pe_int (fun _ _ => rfl)) (pa_cons (pe_ix (r := rIxT K) (by exact ix_tup) (pv 4) pe_int (fun _ _ => rfl)) pa_nil))) (pa_cons (pe_callB (call_min2 rfl) (by rfl) B.n_min (by decide +kernel) (pa_cons (pe_ix (r := rIxT K) (by exact ix_tup) (pv 4) pe_int (fun _ _ => rfl)) (pa_cons (pe_ix (r := rIxT K) (by exact ix_tup) (pv 4) pe_int (fun _ _ => rfl)) pa_nil))) pa_nil))))))) pa_nil)))))), ?_⟩)
  · obtain ⟨c, a, b, rs, rt, rfl, _⟩ := h; rfl
  · obtain ⟨c, a, b, rs, rt, rfl, hS, hT, can, can', c30, hl, q⟩ := h
    have c1 := can.1.c1
    refine ⟨_, rfl, _, rfl, _, rfl, c, a, b, rs, rt, rfl, hS, hT, can, can', c30, hl, fun L xs H1 R s1 n1 e1 hX til good lR _ => ?_⟩
    have lx := paired_len hX
    refine ⟨_, rfl, _, rfl, L, rfl, ⟨_, SqL.of e1⟩, fun D hD => ?_⟩
    refine lc_list (xs := xs) (fun i H' => Same H1 H' ∧ ∃ acc, H' D = some (.lst acc) ∧ Paired (PtAt H') acc ((R.take i).map Pm.loQ)) ⟨Same.new hD, [], upd_same, .nil⟩ (fun i H' _ ⟨s2, _⟩ => SqL.of (s2 _ _ e1)) ?_ ?_
    · rintro i x H2 hx ⟨s2, acc, eD, hA⟩
      obtain ⟨r, hg, bb, rfl, hb⟩ := paired_at hX hx
      have hi := (List.getElem?_eq_some_iff.mp hg).1
      have hb2 := s2 _ _ hb
      have la := paired_len hA
      rw [List.length_map, List.length_take] at la
      refine ⟨rfl, _, rfl, bb, _, _, _, rfl, rfl, SqT.of hb2, atI_nat (j := 0) rfl, _, rfl, bb, _, _, _, rfl, rfl, SqT.of hb2, atI_nat (j := 1) rfl, _, rfl, bb, _, _, _, rfl, rfl, SqT.of hb2, atI_nat (j := 2) rfl, _, rfl, bb, _, _, _, rfl, rfl, SqT.of hb2, atI_nat (j := 4) rfl, _, _, rfl, _, rfl, bb, _, _, _, rfl, rfl, SqT.of hb2, atI_nat (j := 3) rfl, _, rfl, bb, _, _, _, rfl, rfl, SqT.of hb2, atI_nat (j := 5) rfl, _, _, rfl, (by show 4 ≤ sizeLine; decide), fun T hT => ?_⟩
      have nTD : T ≠ D := fun e => by rw [e, eD] at hT; cases hT
      have eD2 := Same.new hT (o := .tup (i4 (Pm.loQ r))) _ _ eD
      refine ⟨acc, eD2, smallL (by omega), same_upd (s2.trans (Same.new hT)) hD, _, upd_same, ?_⟩
      rw [List.take_add_one, hg, List.map_append]
      exact paired_snoc (L2.Paired.mapP hA fun _ _ h => pt_upd eD2 (h.mono (Same.new hT))) ⟨T, rfl, by rw [upd_ne nTD]; exact upd_same⟩
    · rintro H2 ⟨s2, acc, eD, hA⟩
      rw [lx, List.take_of_length_le (Nat.le_refl _)] at hA
      have sH2 := s1.trans s2
      refine ⟨c, D, acc, R.map Pm.loQ, rfl, eD, hA, fun e => tiles_ne (by omega) til (List.map_eq_nil_iff.mp e), by rw [List.length_map]; omega, fun t H3 s3 n3 h3 => ?_⟩
      refine q t H3 _ (sH2.trans s3) (Same.free sH2 n3) h3 (Pm.lo_rows can.1.mono can'.1.mono til good) ?_
      have := ropL_len c (R.map Pm.loQ)
      rw [List.length_map] at this
      omega
theorem ok_both {f f1 f2 f3 f4 f5 f6 : Addr} {fd fd1 fd2 fd3 fd4 fd5 fd6 : FuncData} (B : Blt mg tC) (Dboth_runs : Def K mg "both_runs" s_both_runs ["cycle", "runs", "others"] f fd) (Dstretches : Def K mg "stretches" s_stretches ["cycle", "runs", "others"] f1 fd1) (Druns_of_parts : Def K mg "runs_of_parts" s_runs_of_parts ["cycle", "parts"] f2 fd2) (Darrivals_at : Def K mg "arrivals_at" s_arrivals_at ["cycle", "runs", "starts"] f3 fd3) (Dparted : Def K mg "parted" s_parted ["stretch"] f4 fd4) (Dmoved : Def K mg "moved" s_moved ["run", "ticks"] f5 fd5) (Darrival_by_run : Def K mg "arrival_by_run" s_arrival_by_run ["run", "start"] f6 fd6) : FnOk P w K mg base CX0 4 f fd ["cycle", "runs", "others"] (spPut Pm.mx) := by
  have Gstretches := ok_str (P := P) (w := w) (base := base) B Dstretches Darrivals_at Dparted Dmoved Darrival_by_run
  have Gruns_of_parts := ok_rop (P := P) (w := w) (base := base) B Druns_of_parts
  refine Dboth_runs.F.ok scboth_runs (fun vs H Q E h => ?_) (fun cdv A outer s H vs Q E hr h => ⟨_, (pss_cons (ps_set (i := 3) scboth_runs.nd rfl (Or.inl rfl) (pe_call Gstretches (hr.mono (by decide)) (by rfl) Dstretches.g Dstretches.F.kp Dstretches.b .nil pass0 (pa_cons (pv 0) (pa_cons (pv 1) (pa_cons (pv 2) pa_nil)))))
  (pss_one (ps_ret (pe_call Gruns_of_parts (hr.mono (by decide)) (by rfl) Druns_of_parts.g Druns_of_parts.F.kp Druns_of_parts.b .nil pass0 (pa_cons (pv 0) (pa_cons (pe_lc (own := [("row", 4)]) (g := (gName 4)) (tt := tYes) rfl scboth_runs.nd (pi_list (pv 3)) (blkOk_by (N := ["cycle", "runs", "others", "rows", "row"]) (sc := defScope s_both_runs) (by decide +kernel)) (fun _ _ _ _ _ => (pg_name (i := 4) scboth_runs.nd rfl (Or.inl rfl))) (fun _ _ _ _ _ => pts_nil) (fun _ _ _ _ _ => (pe_tup (pa_cons (pe_ix (r := rIxT K) (by exact ix_tup) (pv 4) pe_int (fun _ _ => rfl)) (pa_cons (pe_ix (r := rIxT K) (by exact ix_tup) (pv 4) pe_int (fun _ _ => rfl)) (pa_cons (pe_callB (call_max2 rfl) (by rfl) B.n_max (by decide +kernel) (pa_cons (pe_ix (r := rIxT K) (by exact ix_tup) (pv 4) pe_int (fun _ _ => rfl)) (pa_cons (pe_ix (r := rIxT K) (by exact ix_tup) (pv 4) pe_int (fun _ _ => rfl)) pa_nil))) (pa_cons (pe_callB (call_max2 rfl) (by rfl) B.n_max (by decide +kernel) (pa_cons (pe_ix (r := rIxT K) (by exact ix_tup) (pv 4) pe_int (fun _ _ => rfl)) (pa_cons (pe_ix (r := rIxT K) (by exact ix_tup) (pv 4) pe_int (fun _ _ => rfl)) pa_nil))) pa_nil))))))) pa_nil)))))), ?_⟩)
  · obtain ⟨c, a, b, rs, rt, rfl, _⟩ := h; rfl
  · obtain ⟨c, a, b, rs, rt, rfl, hS, hT, can, can', c30, hl, q⟩ := h
    have c1 := can.1.c1
    refine ⟨_, rfl, _, rfl, _, rfl, c, a, b, rs, rt, rfl, hS, hT, can, can', c30, hl, fun L xs H1 R s1 n1 e1 hX til good lR _ => ?_⟩
    have lx := paired_len hX
    refine ⟨_, rfl, _, rfl, L, rfl, ⟨_, SqL.of e1⟩, fun D hD => ?_⟩
    refine lc_list (xs := xs) (fun i H' => Same H1 H' ∧ ∃ acc, H' D = some (.lst acc) ∧ Paired (PtAt H') acc ((R.take i).map Pm.hiQ)) ⟨Same.new hD, [], upd_same, .nil⟩ (fun i H' _ ⟨s2, _⟩ => SqL.of (s2 _ _ e1)) ?_ ?_
    · rintro i x H2 hx ⟨s2, acc, eD, hA⟩
      obtain ⟨r, hg, bb, rfl, hb⟩ := paired_at hX hx
      have hi := (List.getElem?_eq_some_iff.mp hg).1
      have hb2 := s2 _ _ hb
      have la := paired_len hA
      rw [List.length_map, List.length_take] at la
      refine ⟨rfl, _, rfl, bb, _, _, _, rfl, rfl, SqT.of hb2, atI_nat (j := 0) rfl, _, rfl, bb, _, _, _, rfl, rfl, SqT.of hb2, atI_nat (j := 1) rfl, _, rfl, bb, _, _, _, rfl, rfl, SqT.of hb2, atI_nat (j := 2) rfl, _, rfl, bb, _, _, _, rfl, rfl, SqT.of hb2, atI_nat (j := 4) rfl, _, _, rfl, _, rfl, bb, _, _, _, rfl, rfl, SqT.of hb2, atI_nat (j := 3) rfl, _, rfl, bb, _, _, _, rfl, rfl, SqT.of hb2, atI_nat (j := 5) rfl, _, _, rfl, (by show 4 ≤ sizeLine; decide), fun T hT => ?_⟩
      have nTD : T ≠ D := fun e => by rw [e, eD] at hT; cases hT
      have eD2 := Same.new hT (o := .tup (i4 (Pm.hiQ r))) _ _ eD
      refine ⟨acc, eD2, smallL (by omega), same_upd (s2.trans (Same.new hT)) hD, _, upd_same, ?_⟩
      rw [List.take_add_one, hg, List.map_append]
      exact paired_snoc (L2.Paired.mapP hA fun _ _ h => pt_upd eD2 (h.mono (Same.new hT))) ⟨T, rfl, by rw [upd_ne nTD]; exact upd_same⟩
    · rintro H2 ⟨s2, acc, eD, hA⟩
      rw [lx, List.take_of_length_le (Nat.le_refl _)] at hA
      have sH2 := s1.trans s2
      refine ⟨c, D, acc, R.map Pm.hiQ, rfl, eD, hA, fun e => tiles_ne (by omega) til (List.map_eq_nil_iff.mp e), by rw [List.length_map]; omega, fun t H3 s3 n3 h3 => ?_⟩
      refine q t H3 _ (sH2.trans s3) (Same.free sH2 n3) h3 (Pm.hi_rows can.1.mono can'.1.mono til good) ?_
      have := ropL_len c (R.map Pm.hiQ)
      rw [List.length_map] at this
      omega
end
end Gr

set_option Elab.async false
set_option linter.all false
set_option pp.deepTerms false
set_option pp.maxSteps 3000
set_option maxRecDepth 100000
set_option maxHeartbeats 8000000
set_option exponentiation.threshold 3000
namespace Gr
open PySem PySem.Spec PyProof.Rows L2
open Pm (Rn)
/-! ### runs_within -/
theorem adj1 {c : Int} {rs : List Rn} {i : Nat} {r r' : Rn} (h : rs[i]? = some r) (h' : rs[i + 1]? = some r') : (r, r') ∈ prs c rs := by
  refine List.mem_iff_getElem?.mpr ⟨i + 1, ?_⟩
  unfold prs
  refine List.getElem?_zip_eq_some.mpr ⟨?_, h'⟩
  rw [List.getElem?_cons_succ, List.getElem?_dropLast, if_pos (by have := (List.getElem?_eq_some_iff.mp h').1; omega)]
  exact h
theorem adj0 {c : Int} {rs : List Rn} {i : Nat} {l r0 : Rn} (hi : i + 1 = rs.length) (h : rs[i]? = some l) (h' : rs[0]? = some r0) : (Pm.mv (-c) l, r0) ∈ prs c rs := by
  refine List.mem_iff_getElem?.mpr ⟨0, ?_⟩
  unfold prs
  refine List.getElem?_zip_eq_some.mpr ⟨?_, h'⟩
  have : rs.getLastD (0, 0, 0) = l := by
    rw [List.getLastD_eq_getLast?, List.getLast?_eq_getElem?, show rs.length - 1 = i by omega, h]; rfl
  rw [this]; rfl
/-- the run behind a run -/
theorem adj {c : Int} {rs : List Rn} (ok : Pm.Ok c rs) {i : Nat} {k : Int} {r : Rn} (h : rs[i]? = some r) : ∃ r', rs[if i + 1 = rs.length then 0 else i + 1]? = some r' ∧ r.2.1 + k * c < r'.1 + (if i + 1 = rs.length then k + 1 else k) * c ∧
    ∀ z w, r.2.1 + k * c < z → z < r'.1 + (if i + 1 = rs.length then k + 1 else k) * c → ¬ Pm.G c rs z w := by
  have hi := (List.getElem?_eq_some_iff.mp h).1
  by_cases e : i + 1 = rs.length
  · rw [if_pos e, if_pos e]
    obtain ⟨r0, h0⟩ : ∃ r0, rs[0]? = some r0 := ⟨_, List.getElem?_eq_getElem (by omega)⟩
    have m := adj0 (c := c) e h h0
    have g := (prs_goes ok _ m).1
    have n := (prs_G ok m).2.2
    simp only [Pm.mv2] at g n
    refine ⟨r0, h0, by rw [Int.add_mul]; omega, fun z w a b hz => ?_⟩
    rw [Int.add_mul, Int.one_mul] at b
    have := Pm.G_move (-(k + 1)) hz
    rw [Int.neg_mul, Int.add_mul, Int.one_mul] at this
    exact n _ _ (by omega) (by omega) this
  · rw [if_neg e, if_neg e]
    obtain ⟨r', h'⟩ : ∃ r', rs[i + 1]? = some r' := ⟨_, List.getElem?_eq_getElem (by omega)⟩
    have m := adj1 (c := c) h h'
    have g := (prs_goes ok _ m).1
    have n := (prs_G ok m).2.2
    refine ⟨r', h', by have : r.2.1 < r'.1 := g; omega, fun z w a b hz => ?_⟩
    have := Pm.G_move (-k) hz
    rw [Int.neg_mul] at this
    exact n _ _ (by show r.2.1 < _; omega) (by show _ < r'.1; omega) this
structure WInv (c : Int) (rs : List Rn) (low high : Int) (a0 : Nat) (k0 : Int) (K i : Nat) (k : Int) (Y : List Rn) : Prop where
  lt : i < rs.length
  ix : (i : Int) + k * (rs.length : Int) = a0 + k0 * (rs.length : Int) + K
  len : Y.length = K
  cur : ∃ r, rs[i]? = some r ∧ low ≤ r.2.1 + k * c ∧ (∀ y ∈ Y, low ≤ y.1 ∧ y.1 ≤ y.2.1 ∧ y.2.1 ≤ high ∧ y.2.1 < r.1 + k * c) ∧
    ∀ z, low ≤ z → z < r.1 + k * c → z ≤ high → Pm.F c rs z < Pm.F c rs (z + 1) → ∃ y ∈ Y, y.1 ≤ z ∧ z ≤ y.2.1
  at' : ∀ y ∈ Y, ∀ z, y.1 ≤ z → z ≤ y.2.1 → Pm.F c rs z = y.2.2 + (z - y.1) ∧ Pm.F c rs z < Pm.F c rs (z + 1)
  pw : Y.Pairwise fun a b => a.2.1 < b.1
def pieceW (low high : Int) (r : Rn) : Rn := (Pm.mx r.1 low, Pm.mn r.2.1 high, r.2.2 + Pm.mx r.1 low - r.1)
theorem WInv.start {c : Int} {rs pre post : List Rn} {r : Rn} {low high k : Int} (ok : Pm.Ok c rs) (e : rs = pre ++ r :: post) (h1 : ∀ a ∈ pre, a.2.1 + k * c < low) (h2 : low ≤ r.2.1 + k * c) (h3 : ∀ a ∈ rs, a.2.1 + k * c - c < low) :
    WInv c rs low high pre.length k 0 pre.length k [] := by
  have hr : rs[pre.length]? = some r := by rw [e, List.getElem?_append_right (Nat.le_refl _), Nat.sub_self]; rfl
  have hl := (List.getElem?_eq_some_iff.mp hr).1
  refine ⟨hl, by omega, rfl, ⟨r, hr, h2, fun y hy => (by cases hy), fun z z0 z1 _ gr => ?_⟩, fun y hy => (by cases hy), List.Pairwise.nil⟩
  exfalso
  obtain ⟨w, hw⟩ := (F_grows ok z).mpr gr
  have hw' := Pm.G_move (-k) hw
  rw [Int.neg_mul] at hw'
  cases hp : pre.length with
  | zero =>
    rw [hp] at hr
    obtain ⟨l, hl'⟩ : ∃ l, rs[rs.length - 1]? = some l := ⟨_, List.getElem?_eq_getElem (by omega)⟩
    have m := adj0 (c := c) (show rs.length - 1 + 1 = rs.length by omega) hl' hr
    have := h3 l (List.mem_of_getElem? hl')
    exact (prs_G ok m).2.2 _ _ (by show l.2.1 + -c < _; omega) (by show _ < r.1; omega) hw'
  | succ j =>
    rw [hp] at hr
    obtain ⟨b, hb⟩ : ∃ b, rs[j]? = some b := ⟨_, List.getElem?_eq_getElem (by omega)⟩
    have m := adj1 (c := c) hb hr
    have mb : b ∈ pre := by
      rw [e, List.getElem?_append_left (by omega)] at hb
      exact List.mem_of_getElem? hb
    have := h1 b mb
    exact (prs_G ok m).2.2 _ _ (by show b.2.1 < _; omega) (by show _ < r.1; omega) hw'
theorem WInv.step {c : Int} {rs : List Rn} {low high : Int} {a0 : Nat} {k0 : Int} {K i : Nat} {k : Int} {Y : List Rn} (ok : Pm.Ok c rs) (v : WInv c rs low high a0 k0 K i k Y) {r : Rn} (hr : rs[i]? = some r) (lh : low ≤ high) (le : r.1 + k * c ≤ high) :
    WInv c rs low high a0 k0 (K + 1) (if i + 1 = rs.length then 0 else i + 1) (if i + 1 = rs.length then k + 1 else k) (Y ++ [pieceW low high (Pm.mv (k * c) r)]) := by
  obtain ⟨r1, hr1, c1, c2, c3⟩ := v.cur
  rw [hr] at hr1
  cases hr1
  obtain ⟨r', hr', a1, a2⟩ := adj ok (k := k) hr
  have mr := List.mem_of_getElem? hr
  have fl := ok.fl r mr
  have fl' := ok.fl r' (List.mem_of_getElem? hr')
  have lt := v.lt
  have e1 : (pieceW low high (Pm.mv (k * c) r)).1 = Pm.mx (r.1 + k * c) low := rfl
  have e2 : (pieceW low high (Pm.mv (k * c) r)).2.1 = Pm.mn (r.2.1 + k * c) high := rfl
  have e3 : (pieceW low high (Pm.mv (k * c) r)).2.2 = r.2.2 + k * c + Pm.mx (r.1 + k * c) low - (r.1 + k * c) := rfl
  have m1 : low ≤ Pm.mx (r.1 + k * c) low ∧ r.1 + k * c ≤ Pm.mx (r.1 + k * c) low ∧ (Pm.mx (r.1 + k * c) low = low ∨ Pm.mx (r.1 + k * c) low = r.1 + k * c) := by
    unfold Pm.mx; split <;> omega
  have m2 : Pm.mn (r.2.1 + k * c) high ≤ high ∧ Pm.mn (r.2.1 + k * c) high ≤ r.2.1 + k * c ∧ (Pm.mn (r.2.1 + k * c) high = high ∨ Pm.mn (r.2.1 + k * c) high = r.2.1 + k * c) := by
    unfold Pm.mn; split <;> omega
  have gz : ∀ z, r.1 + k * c ≤ z → z ≤ r.2.1 + k * c → Pm.F c rs z = r.2.2 + z - r.1 ∧ Pm.F c rs z < Pm.F c rs (z + 1) := fun z z0 z1 => by
    have g : Pm.G c rs z (r.2.2 + z - r.1) := ⟨r, mr, k, z0, z1, rfl⟩
    exact ⟨F_last ok g, (F_grows ok z).mp ⟨_, g⟩⟩
  generalize pieceW low high (Pm.mv (k * c) r) = p at e1 e2 e3
  refine ⟨?_, ?_, by rw [List.length_append, v.len]; rfl, ⟨r', hr', by omega, fun y hy => ?_, fun z z0 z1 z2 gr => ?_⟩, fun y hy z z0 z1 => ?_, ?_⟩
  · split <;> omega
  · have ix := v.ix
    split
    · rename_i e
      rw [Int.add_mul, Int.one_mul]; omega
    · omega
  · rcases List.mem_append.mp hy with hy | hy
    · have := c2 y hy; omega
    · rw [List.mem_singleton.mp hy, e1, e2]; omega
  · by_cases h1 : z < r.1 + k * c
    · obtain ⟨y, hy, h⟩ := c3 z z0 h1 z2 gr
      exact ⟨y, List.mem_append_left _ hy, h⟩
    · by_cases h2 : z ≤ r.2.1 + k * c
      · exact ⟨p, by simp, by rw [e1]; omega, by rw [e2]; omega⟩
      · obtain ⟨w, hw⟩ := (F_grows ok z).mpr gr
        exact absurd hw (a2 z w (by omega) z1)
  · rcases List.mem_append.mp hy with hy | hy
    · exact v.at' y hy z z0 z1
    · rw [List.mem_singleton.mp hy] at z0 z1 ⊢
      rw [e1] at z0 ⊢
      rw [e2] at z1
      rw [e3]
      have := gz z (by omega) (by omega)
      exact ⟨by omega, this.2⟩
  · refine List.pairwise_append.mpr ⟨v.pw, List.pairwise_singleton _ _, fun x hx y hy => ?_⟩
    rw [List.mem_singleton.mp hy, e1]
    have := c2 x hx
    omega
theorem WInv.most {c : Int} {rs : List Rn} {low high : Int} {a0 : Nat} {k0 : Int} {K i : Nat} {k : Int} {Y : List Rn} (ok : Pm.Ok c rs) (v : WInv c rs low high a0 k0 K i k Y) {r r0 : Rn} (hr : rs[i]? = some r) (le : r.1 + k * c ≤ high)
    (h0 : rs[a0]? = some r0) (l0 : low ≤ r0.2.1 + k0 * c) (hl : high < low + c) : K ≤ rs.length := by
  refine Decidable.byContradiction fun hK => ?_
  have c1 := ok.c1
  have ix := v.ix
  have lt := v.lt
  have l1 := (List.getElem?_eq_some_iff.mp h0).1
  have m := List.mem_of_getElem? hr
  have m0 := List.mem_of_getElem? h0
  have ll := ok.ll m0 m
  have hk : k0 + 1 ≤ k := by
    refine Decidable.byContradiction fun h => ?_
    have : k * (rs.length : Int) ≤ k0 * (rs.length : Int) := Int.mul_le_mul_of_nonneg_right (by omega) (by omega)
    omega
  by_cases e : k = k0 + 1
  · subst e
    rw [Int.add_mul, Int.one_mul] at ix le
    have h : a0 < i := by omega
    have := (pwx ok.pw h0 hr h).1
    omega
  · have : (k0 + 2) * c ≤ k * c := Int.mul_le_mul_of_nonneg_right (by omega) (by omega)
    rw [Int.add_mul] at this
    omega
/-- what runs_within finds -/
structure Within (c : Int) (rs : List Rn) (low high : Int) (Y : List Rn) : Prop where
  rng : ∀ y ∈ Y, low ≤ y.1 ∧ y.1 ≤ y.2.1 ∧ y.2.1 ≤ high
  at' : ∀ y ∈ Y, ∀ z, y.1 ≤ z → z ≤ y.2.1 → Pm.F c rs z = y.2.2 + (z - y.1) ∧ Pm.F c rs z < Pm.F c rs (z + 1)
  pw : Y.Pairwise fun a b => a.2.1 < b.1
  cov : ∀ z, low ≤ z → z ≤ high → Pm.F c rs z < Pm.F c rs (z + 1) → ∃ y ∈ Y, y.1 ≤ z ∧ z ≤ y.2.1
theorem WInv.fin {c : Int} {rs : List Rn} {low high : Int} {a0 : Nat} {k0 : Int} {K i : Nat} {k : Int} {Y : List Rn} (v : WInv c rs low high a0 k0 K i k Y) {r : Rn} (hr : rs[i]? = some r) (h : high < low ∨ high < r.1 + k * c) : Within c rs low high Y := by
  obtain ⟨r1, hr1, c1, c2, c3⟩ := v.cur
  rw [hr] at hr1
  cases hr1
  refine ⟨fun y hy => by have := c2 y hy; omega, v.at', v.pw, fun z z0 z1 gr => ?_⟩
  rcases h with h | h
  · omega
  · exact c3 z z0 (by omega) z1 gr
end Gr

set_option Elab.async false
set_option linter.all false
set_option pp.deepTerms false
set_option pp.maxSteps 3000
set_option maxRecDepth 100000
set_option maxHeartbeats 8000000
set_option exponentiation.threshold 3000
namespace Gr
open PySem PySem.Spec PyProof.Rows L2
open Pm (Rn)
def spWithin : Sp := fun vs H Q _ => ∃ (c low high : Int) (a : Addr) (rs : List Rn), vs = [.int c, .ref a, .int low, .int high] ∧ RnsT H a rs ∧ Pm.Ok c rs ∧ c ≤ 10 ^ 30 ∧ rs.length ≤ 40000 ∧ (∀ r ∈ rs, Fit (r.2.1 - low)) ∧ high < low + c ∧
  ∀ L xs H' Y, Same H H' → H L = none → H' L = some (.lst xs) → Paired (RnAt H') xs Y → Within c rs low high Y → Y.length ≤ rs.length + 1 → Q (.ref L) H'
section
variable {P : Program} {w : World} {K : PySem.W.Frag} {mg : Str → Option Value} {base : Heap} {tC : Tok}
theorem ok_within {f f1 f2 : Addr} {fd fd1 fd2 : FuncData} (B : Blt mg tC) (Druns_within : Def K mg "runs_within" s_runs_within ["cycle", "runs", "low", "high"] f fd) (Dplace_of : Def K mg "place_of" s_place_of ["cycle", "runs", "start"] f1 fd1) (Dmoved : Def K mg "moved" s_moved ["run", "ticks"] f2 fd2) : FnOk P w K mg base CX0 2 f fd ["cycle", "runs", "low", "high"] spWithin := by
  have Gplace_of := ok_place (P := P) (w := w) (base := base) B Dplace_of
  have Gmoved := ok_moved (P := P) (w := w) (base := base) B Dmoved
  refine Druns_within.F.ok scruns_within (fun vs H Q E h => ?_) (fun cdv A outer s H vs Q E hr h => ⟨_, (pss_cons (ps_set (i := 4) scruns_within.nd rfl (Or.inl rfl) (pe_lst pa_nil))
  (pss_cons (ps_asg (pe_call Gplace_of (hr.mono (by decide)) (by rfl) Dplace_of.g Dplace_of.F.kp Dplace_of.b .nil pass0 (pa_cons (pv 0) (pa_cons (pv 1) (pa_cons (pv 2) pa_nil)))) (pg_tup rfl (pgs_cons (pg_name (i := 5) scruns_within.nd rfl (Or.inl rfl)) (pgs_cons (pg_name (i := 6) scruns_within.nd rfl (Or.inl rfl)) pgs_nil))))
  (pss_cons (ps_while PassesOwn.never (PW.pt (pw_and (pt_cmpR op_le (pv 2) (pv 3) (nomark _)) (pw_and1 (pt_cmpR op_le (pe_op op_add (pe_ix ix_tup (pe_ix ix_tup (pv 1) (pv 5) (fun _ _ => rfl)) pe_int (fun _ _ => rfl)) (pv 6)) (pv 3) (nomark _)))))
   (pss_cons (ps_asg (pe_call Gmoved (hr.mono (by decide)) (by rfl) Dmoved.g Dmoved.F.kp Dmoved.b .nil pass0 (pa_cons (pe_ix ix_tup (pv 1) (pv 5) (fun _ _ => rfl)) (pa_cons (pv 6) pa_nil))) (pg_tup rfl (pgs_cons (pg_name (i := 7) scruns_within.nd rfl (Or.inl rfl)) (pgs_cons (pg_name (i := 8) scruns_within.nd rfl (Or.inl rfl)) (pgs_cons (pg_name (i := 9) scruns_within.nd rfl (Or.inl rfl)) pgs_nil)))))
  (pss_cons (ps_set (i := 10) scruns_within.nd rfl (Or.inl rfl) (pe_callB (call_max2 rfl) (by rfl) B.n_max (by decide +kernel) (pa_cons (pv 7) (pa_cons (pv 2) pa_nil))))
  (pss_cons (ps_expr (pe_bm PySem.F.plainAttrs_list PySem.F.slot_list_append PySem.F.type_list_append mt_append (pv 4) (pa_cons (pe_tup (pa_cons (pv 10) (pa_cons (pe_callB (call_min2 rfl) (by rfl) B.n_min (by decide +kernel) (pa_cons (pv 8) (pa_cons (pv 3) pa_nil))) (pa_cons (pe_op op_sub (pe_op op_add (pv 9) (pv 10)) (pv 7)) pa_nil)))) pa_nil)))
  (pss_cons (ps_aug (i := 5) scruns_within.nd rfl (Or.inl rfl) pe_int ip_add)
  (pss_one (ps_if (pt_cmpR op_eq (pv 5) (pe_callB call_len_seq (by rfl) B.len PySem.boot_len (pa_cons (pv 1) pa_nil)) (nomark _))
   (pss_one (ps_par (i := 5) (j := 6) rfl scruns_within.nd rfl rfl (by decide) rfl rfl (pa_cons pe_int (pa_cons (pe_op op_add (pv 6) (pv 0)) pa_nil)) (by rfl)))
   pss_nil)))))))
  (pss_one (ps_ret (pv 4)))))), ?_⟩)
  · obtain ⟨c, low, high, a, rs, rfl, _⟩ := h; rfl
  · obtain ⟨c, low, high, a, rs, rfl, hS, ok, c30, hl, hf, hlo, q⟩ := h
    refine ⟨Nat.zero_le _, fun F hF => ?_⟩
    have sF := Same.new hF (o := .lst [])
    refine ⟨_, rfl, _, rfl, _, rfl, c, low, a, rs, rfl, hS.mono sF, ok, c30, by omega, hf, fun t H1 pre r0 post k0 s1 e0 ht h1 h2 h3 => ?_⟩
    refine ⟨t, _, rfl, SqT.of ht, rfl, _, _, rfl, _, _, rfl, rfl, ?_⟩
    have v0 := WInv.start (high := high) ok e0 h1 h2 h3
    have hr0 : rs[pre.length]? = some r0 := by rw [e0, List.getElem?_append_right (Nat.le_refl _), Nat.sub_self]; rfl
    refine ⟨fun m σ H' => ∃ (N i : Nat) (k : Int) (Y : List Rn) (us : List V) (y7 y8 y9 y10 : Option V), m = rs.length + 2 - N ∧ σ = [some (.int c), some (.ref a), some (.int low), some (.int high), some (.ref F), some (.int (i : Int)), some (.int (k * c)), y7, y8, y9, y10] ∧ Same H H' ∧ H' F = some (.lst us) ∧ Paired (RnAt H') us Y ∧ WInv c rs low high pre.length k0 N i k Y ∧ N ≤ rs.length + 1,
      ⟨_, 0, pre.length, k0, [], [], none, none, none, none, rfl, rfl, sF.trans s1, s1 _ _ upd_same, .nil, v0, by omega⟩, ?_⟩
    rintro m σ H' ⟨N, i, k, Y, us, y7, y8, y9, y10, rfl, rfl, s2, hF2, hU, v, hN⟩
    obtain ⟨xs, ha, hX⟩ := hS.mono s2
    have lx := paired_len hX
    obtain ⟨xi, hxi⟩ : ∃ xi, xs[i]? = some xi := ⟨_, List.getElem?_eq_getElem (by have := v.lt; omega)⟩
    obtain ⟨r, hri, b, rfl, hb⟩ := paired_at hX hxi
    have lU := paired_len hU
    have lY := v.len
    refine ⟨_, rfl, _, rfl, _, _, rfl, rfl, ?_⟩
    by_cases lh : low ≤ high
    · refine ⟨true, congrArg V.bl (decide_eq_true lh), ?_⟩
      refine ⟨_, rfl, _, rfl, a, _, _, _, rfl, rfl, SqT.of ha, atI_nat hxi, b, _, _, _, rfl, rfl, SqT.of hb, atI_nat (j := 0) rfl, _, rfl, _, _, rfl, rfl, _, rfl, _, _, rfl, rfl, ?_⟩
      by_cases z : r.1 + k * c ≤ high
      · refine ⟨true, congrArg V.bl (decide_eq_true z), ?_⟩
        have mo := v.most ok hri z hr0 h2 hlo
        have v' := v.step ok hri lh z
        refine ⟨fun σ' H2 => ∃ m', m' < rs.length + 2 - N ∧ ∃ (N i : Nat) (k : Int) (Y : List Rn) (us : List V) (y7 y8 y9 y10 : Option V), m' = rs.length + 2 - N ∧ σ' = [some (.int c), some (.ref a), some (.int low), some (.int high), some (.ref F), some (.int (i : Int)), some (.int (k * c)), y7, y8, y9, y10] ∧ Same H H2 ∧ H2 F = some (.lst us) ∧ Paired (RnAt H2) us Y ∧ WInv c rs low high pre.length k0 N i k Y ∧ N ≤ rs.length + 1, fun _ _ n => n, ?_⟩
        refine ⟨_, rfl, _, rfl, a, _, _, _, rfl, rfl, SqT.of ha, atI_nat hxi, _, rfl, b, k * c, [r.1, r.2.1, r.2.2], rfl, hb, Nat.le_of_ble_eq_true rfl, fun e2 H2 s3 hn he => ?_⟩
        refine ⟨e2, _, rfl, SqT.of he, rfl, _, _, rfl, _, _, rfl, _, _, rfl, rfl, ?_⟩
        refine ⟨_, rfl, _, rfl, _, _, rfl, ?_⟩
        have hF3 := s3 _ _ hF2
        refine ⟨_, rfl, .inl ⟨rfl, _, SqL.of hF3⟩, _, rfl, _, rfl, _, rfl, _, _, rfl, _, rfl, _, rfl, _, _, rfl, rfl, _, rfl, _, _, rfl, rfl, (by show 3 ≤ sizeLine; decide), fun T hT => ?_⟩
        refine ⟨F, us, _, rfl, rfl, Same.new hT _ _ hF3, smallL (by omega), ?_⟩
        refine ⟨_, rfl, _, _, rfl, rfl, ?_⟩
        have hU6 := app_row hF3 hT (rns_mono s3 hU) (pieceW low high (Pm.mv (k * c) r))
        have s6 := app_same (us := us) (ys := us ++ [.ref T]) (o := .tup (i3 (pieceW low high (Pm.mv (k * c) r)))) hF (s2.trans s3) hT
        have hF6 : (upd (upd H2 T (.tup (i3 (pieceW low high (Pm.mv (k * c) r))))) F (.lst (us ++ [.ref T]))) F = some (.lst (us ++ [.ref T])) := upd_same
        have ha6 : (upd (upd H2 T (.tup (i3 (pieceW low high (Pm.mv (k * c) r))))) F (.lst (us ++ [.ref T]))) a = some (.tup xs) := by
          obtain ⟨xs', ha', hX'⟩ := hS
          have e1 := s2 _ _ ha'
          rw [ha] at e1
          cases e1
          exact s6 _ _ ha'
        refine ⟨_, rfl, _, rfl, a, _, rfl, .inr (SqT.of ha6), ?_⟩
        by_cases z2 : i + 1 = rs.length
        · rw [if_pos z2, if_pos z2] at v'
          have e : V.int ((i : Int) + 1) = V.int (xs.length : Int) := by rw [lx, ← z2]; rfl
          refine ⟨rfl, true, congrArg V.bl (decide_eq_true e), ?_⟩
          refine ⟨_, rfl, _, rfl, _, _, rfl, rfl, ?_⟩
          have ek : k * c + c = (k + 1) * c := by rw [Int.add_mul, Int.one_mul]
          exact ⟨_, _, rfl, _, by omega, N + 1, 0, k + 1, _, _, some (.int (r.1 + k * c)), some (.int (r.2.1 + k * c)), some (.int (r.2.2 + k * c)), some (.int (Pm.mx (r.1 + k * c) low)), rfl, by rw [← ek]; rfl, s6, hF6, hU6, v', by omega⟩
        · rw [if_neg z2, if_neg z2] at v'
          have e : V.int ((i : Int) + 1) ≠ V.int (xs.length : Int) := fun e => by have := V.int.inj e; omega
          refine ⟨rfl, false, congrArg V.bl (decide_eq_false e), ?_⟩
          exact ⟨_, by omega, N + 1, i + 1, k, _, _, _, _, _, _, rfl, rfl, s6, hF6, hU6, v', by omega⟩
      · refine ⟨false, congrArg V.bl (decide_eq_false z), ?_⟩
        exact ⟨_, rfl, q F us _ Y s2 hF hF2 hU (v.fin hri (.inr (by omega))) (by omega)⟩
    · refine ⟨false, congrArg V.bl (decide_eq_false lh), ?_⟩
      exact ⟨_, rfl, q F us _ Y s2 hF hF2 hU (v.fin hri (.inl (by omega))) (by omega)⟩
end
end Gr

set_option Elab.async false
set_option linter.all false
set_option maxRecDepth 100000
set_option maxHeartbeats 8000000
/-! a loop over zip of a tuple and a list of one length, each pair new -/
namespace L2
open PySem PySem.Spec PyProof.Rows
def ItzM (K : PySem.W.Frag) (a b : Addr) : It :=
  ⟨fun i H => ∃ xs ys : List V, SqT K H a xs ∧ SqL K H b ys ∧ xs.length = ys.length ∧ i < xs.length,
    fun i H v H' => ∃ T x y, v = .ref T ∧ H T = none ∧ H' = upd H T (.tup [x, y]) ∧ (∀ xs, SqT K H a xs → xs[i]? = some x) ∧ ∀ ys, SqL K H b ys → ys[i]? = some y,
    fun i H => ∃ xs ys : List V, SqT K H a xs ∧ SqL K H b ys ∧ xs.length = ys.length ∧ i = xs.length⟩
/-- the two walks as streams -/
theorem strm2 {prog : Program} {w : World} {A : Around} (hh : A.handled = none) {z TI TO i1 i2 a b : Addr} (D : ZipApart z TI TO i1 i2 a b) (us vs : List Value) (n : Nat) (l1 : us.length = n) (l2 : vs.length = n) :
    ∃ S1 S2 : LwO.Strm prog w A n, S1.it = i1 ∧ S2.it = i2 ∧ S1.P = (fun j v => us.toArray[j]? = some v) ∧ S2.P = (fun j v => vs.toArray[j]? = some v) ∧ (∀ i h, S1.St i h ↔ h.IsTupleIter i1 a i ∧ h.IsTuple a us.toArray) ∧ (∀ i h, S2.St i h ↔ h.IsListIter i2 b i ∧ h.IsList b vs.toArray) ∧
      LwO.Apart [S1, S2] ∧ LwO.Off [S1, S2] z ∧ LwO.Off [S1, S2] TO := by
  have D1 := Draws.tuple (prog := prog) (w := w) hh i1 a D.l1i1 us.toArray
  have D2 := Draws.list (prog := prog) (w := w) hh i2 b D.l2i2 vs.toArray
  rw [show us.toArray.size = n by simpa using l1] at D1
  rw [show vs.toArray.size = n by simpa using l2] at D2
  have nm : ∀ {c p q : Addr}, c ≠ p → c ≠ q → c ∉ [p, q] := fun h1 h2 => by
    simp only [List.mem_cons, List.not_mem_nil, or_false, not_or]; exact ⟨h1, h2⟩
  refine ⟨⟨i1, _, _, _, D1, List.mem_cons_self⟩, ⟨i2, _, _, _, D2, List.mem_cons_self⟩, rfl, rfl, rfl, rfl, fun _ _ => Iff.rfl, fun _ _ => Iff.rfl, ?_, fun x hx => ?_, fun x hx => ?_⟩
  · refine .cons (fun y hy => ?_) (List.pairwise_singleton _ _)
    rw [List.mem_singleton.mp hy]
    exact ⟨nm D.i12 D.l2i1.symm, nm D.i12.symm D.l1i2.symm⟩
  · simp only [List.mem_cons, List.not_mem_nil, or_false] at hx
    rcases hx with rfl | rfl
    · exact nm D.i1z.symm D.l1z.symm
    · exact nm D.i2z.symm D.l2z.symm
  · simp only [List.mem_cons, List.not_mem_nil, or_false] at hx
    rcases hx with rfl | rfl
    · exact nm D.TOi1 D.l1TO.symm
    · exact nm D.TOi2 D.l2TO.symm
theorem turn_zipM {P : Program} {w : World} {K : PySem.W.Frag} {elts : List Expr} {kk : Nat} {tpos : Pos} {a b z TI TO i1 i2 : Addr} (D : ZipApart z TI TO i1 i2 a b) :
    Turn P w K (.Tuple elts kk tpos) (ItzM K a b) [z, TI, TO, i1, i2] z (fun i h => IsZip h z TI TO .none ∧ IsPair h TI (.ref i1) (.ref i2) ∧ (∃ x y, IsPair h TO x y) ∧ h.IsTupleIter i1 a i ∧ h.IsListIter i2 b i) where
  mem := List.mem_cons_self
  obj := fun i h ⟨hz, hTI, ⟨x, y, hTO⟩, ⟨o1, e1, _, d1⟩, ⟨o2, e2, _, d2⟩⟩ c hc => by
    simp only [List.mem_cons, List.not_mem_nil, or_false] at hc
    rcases hc with rfl | rfl | rfl | rfl | rfl
    · exact ⟨_, hz, fun v q => nomatch q⟩
    · exact ⟨_, hTI, fun v q => nomatch q⟩
    · exact ⟨_, hTO, fun v q => nomatch q⟩
    · exact ⟨o1, e1, fun v q => by rw [d1] at q; cases q⟩
    · exact ⟨o2, e2, fun v q => by rw [d2] at q; cases q⟩
  keep := fun i h h' ⟨hz, hTI, ⟨x, y, hTO⟩, h1, h2⟩ k =>
    ⟨k z (by simp) _ hz, k TI (by simp) _ hTI, ⟨x, y, k TO (by simp) _ hTO⟩, h1.at fun o q => k i1 (by simp) o q, h2.at fun o q => k i2 (by simp) o q⟩
  item := by
    intro X hP hw hK hc i pins s σ H E I hf st hg
    subst hP hw hK
    obtain ⟨hz, hTI, ⟨x0, y0, hTO⟩, h1, h2⟩ := st
    obtain ⟨xs, ys, hqx, hqy, hl, hi⟩ := hg
    obtain ⟨us, rv, p, _⟩ := I.tuple hqx
    obtain ⟨vs, rv2, p2, _⟩ := I.list hqy
    obtain ⟨S1, S2, e1, e2, eP1, eP2, st1, st2, ap, oz, oT⟩ := strm2 (A := X.A.in1) (prog := X.prog) (w := X.w) (I.ok.hd hc) D us vs xs.length rv.length.symm (by rw [← rv2.length, hl])
    have hx : xs[i]? = some xs[i] := List.getElem?_eq_getElem hi
    have hy : ys[i]? = some ys[i] := List.getElem?_eq_getElem (by omega)
    generalize xs[i] = x at hx
    generalize ys[i] = y at hy
    obtain ⟨u, hu, ru⟩ := rv.get hx
    obtain ⟨u2, hu2, ru2⟩ := rv2.get hy
    have hzl : z < s.heap.objs.size := Heap.lt_size hz
    have al : LwO.AllAt [S1, S2] i s.heap := fun S hS => by
      simp only [List.mem_cons, List.not_mem_nil, or_false] at hS
      rcases hS with rfl | rfl
      · exact (st1 _ _).mpr ⟨h1, p⟩
      · exact (st2 _ _).mpr ⟨h2, p2.isList⟩
    refine LwO.pyNext_of ⟨_, hz, rfl⟩ fun E' => LwO.next_free (by simp) ap oz oT D.TOz hz (by rw [hTI]; simp [e1, e2]) hTO rfl al hi (by show 2 ≤ sizeLine; decide) fun zs h' tk lz pz z' al' hT hTO' hsz hk => ?_
    obtain ⟨q1, q2, rfl⟩ : ∃ q1 q2, zs = [q1, q2] := by
      match zs, lz with
      | [q1, q2], _ => exact ⟨q1, q2, rfl⟩
    have g1 := pz 0 S1 q1 rfl rfl
    have g2 := pz 1 S2 q2 rfl rfl
    rw [eP1] at g1
    rw [eP2] at g2
    simp only [List.getElem?_toArray] at g1 g2
    rw [hu] at g1
    rw [hu2] at g2
    cases g1
    cases g2
    have h1' := ((st1 _ _).mp (al' S1 (by simp))).1
    have h2' := ((st2 _ _).mp (al' S2 (by simp))).1
    have hk' : ∀ c o, c ≠ z → c ≠ TO → c ≠ i1 → c ≠ i2 → s.heap.get? c = some o → h'.get? c = some o := fun c o c1 c2 c3 c4 e => hk c o c1 c2 (fun S hS => by
      simp only [List.mem_cons, List.not_mem_nil, or_false] at hS
      rcases hS with rfl | rfl
      · rw [e1]; exact c3
      · rw [e2]; exact c4) e
    refine ⟨_, rfl, wpAny_letOwnedTupleGo_zip (s := { s with heap := h', toks := tk }) z' fun h'' z'' sb => ?_⟩
    have up : ∀ c o, c ≠ z → h'.get? c = some o → h''.get? c = some o := fun c o c1 e => sb.extBut _ _ c1 e
    have hT2 : h''.get? s.heap.objs.size = some { cls := .type "tuple", data := .seq #[u, u2] } := up _ _ (Nat.ne_of_gt hzl) hT
    have new : ObjOk X.prog X.w (upd H s.heap.objs.size (.tup [x, y])) h'' s.heap.objs.size (.tup [x, y]) :=
      ⟨by show 2 ≤ sizeLine; decide, [u, u2], .cons ru (.cons ru2 .nil), ⟨_, hT2, rfl, _, rfl⟩⟩
    have I1 : Inv X pins σ (upd H s.heap.objs.size (.tup [x, y])) { s with heap := h'', toks := tk } :=
      I.turnedNew (t' := tk) (ch := [z, TI, TO, i1, i2]) (fun c o hb q => by
        simp only [List.mem_cons, List.not_mem_nil, or_false, not_or] at hb
        exact up c o hb.1 (hk' c o hb.1 hb.2.2.1 hb.2.2.2.1 hb.2.2.2.2 q)) hf (Nat.le_refl _) new
    refine ⟨.ref s.heap.objs.size, _, I1, rfl, ⟨_, x, y, rfl, I.hok.fresh (Nat.le_refl _), rfl, fun l hl => by rw [I.tuple_inj hl hqx]; exact hx, fun l hl => by rw [I.list_inj hl hqy]; exact hy⟩,
      ⟨z'', up _ _ D.TIz (hk' _ _ D.TIz D.TITO D.TIi1 D.TIi2 hTI), ⟨u, u2, up _ _ D.TOz hTO'⟩, h1'.at fun o q => up _ o D.i1z q, h2'.at fun o q => up _ o D.i2z q⟩, fun c hcm => ?_⟩
    have hlt : c < s.heap.objs.size := by
      simp only [List.mem_cons, List.not_mem_nil, or_false] at hcm
      rcases hcm with rfl | rfl | rfl | rfl | rfl
      · exact hzl
      · exact Heap.lt_size hTI
      · exact Heap.lt_size hTO
      · obtain ⟨_, e1, _⟩ := h1; exact Heap.lt_size e1
      · obtain ⟨_, e2, _⟩ := h2; exact Heap.lt_size e2
    rw [upd_ne (Nat.ne_of_lt hlt)]
    exact (hf c hcm).1
  done := by
    intro X hP hw hK hc i pins s σ H E I hf st hg
    subst hP hw hK
    obtain ⟨hz, hTI, ⟨x0, y0, hTO⟩, h1, h2⟩ := st
    obtain ⟨xs, ys, hqx, hqy, hl, rfl⟩ := hg
    obtain ⟨us, rv, p, _⟩ := I.tuple hqx
    obtain ⟨vs, rv2, p2, _⟩ := I.list hqy
    obtain ⟨S1, S2, e1, e2, eP1, eP2, st1, st2, ap, oz, oT⟩ := strm2 (A := X.A.in1) (prog := X.prog) (w := X.w) (I.ok.hd hc) D us vs xs.length rv.length.symm (by rw [← rv2.length, hl])
    have al : LwO.AllAt [S1, S2] xs.length s.heap := fun S hS => by
      simp only [List.mem_cons, List.not_mem_nil, or_false] at hS
      rcases hS with rfl | rfl
      · exact (st1 _ _).mpr ⟨h1, p⟩
      · exact (st2 _ _).mpr ⟨h2, p2.isList⟩
    refine LwO.pyEnd_of ⟨_, hz, rfl⟩ fun Q' E' q => LwO.end_free oz hz (by rw [hTI]; simp [e1, e2]) al fun h' e hk he => q h' e he ⟨rfl, ?_⟩
    exact I.turnedL (t' := s.toks) (ch := [z, TI, TO, i1, i2]) (fun c o hb q => by
      simp only [List.mem_cons, List.not_mem_nil, or_false, not_or] at hb
      exact hk c o hb.1 (by rw [e1]; exact hb.2.2.2.1) q) hf
  self := fun A i s Q E st h => wpAny_pyIter_zip st.1 h
def iZipM (K : PySem.W.Frag) (ta : TA) : TI := fun σ H R => ta σ H fun vs H1 => ∃ a b xs ys, vs = [.ref a, .ref b] ∧ SqT K H1 a xs ∧ SqL K H1 b ys ∧ R (ItzM K a b) H1
theorem pi_zipM {X : Cx} {e e2 : Expr} {ta : TA} {p pos tpos : Pos} {elts : List Expr} {kk : Nat} (hg : Gl X "zip") (hm : X.mg "zip" = none) (ha : PA X [e, e2] ta)
    (hs : starEach [e, e2] X.env = (false, eval e X.env) :: starEach [e2] X.env := by rfl) (hpl : (backTo pos (starEach [e2] X.env)).any (·.1) = false := by rfl) :
    PI X (.Tuple elts kk tpos) (.Call (.Name "zip" p) [e, e2] [] pos) (iZipM X.K ta) := by
  refine ⟨fun pins s σ H R I h => ?_⟩
  refine Call_ (ld_blt I hg hm PyProof.Rows.boot_zip (PyProof.Rows.callWith_type1 (thn (ha.run pos pins s σ H _ I h) fun us s1 ⟨vs, H1, I1, r1, q1⟩ => ?_) hs hpl))
  obtain ⟨a, b, xs, ys, ex, hx, hy, q⟩ := q1
  subst ex
  cases r1 with
  | cons r rr =>
    cases rr with
    | cons r' rr =>
      cases rr
      cases r
      cases r'
      obtain ⟨its, rv, p1, _⟩ := I1.tuple hx
      obtain ⟨its2, rv2, p2, _⟩ := I1.list hy
      obtain ⟨o1, ho1, _⟩ := id p1
      have la : a < s1.heap.objs.size := Heap.lt_size ho1
      have lb : b < s1.heap.objs.size := p2.lt
      refine zip_begins2 (begins_tuple a its.toArray) (begins_list b its2.toArray) p1 p2.isList fun h' hz hTI hTO g1 g2 hsz hk => wpAny_pyIter_zip hz ?_
      have I2 : Inv X pins σ H1 { s1 with heap := h' } := I1.kept (t' := s1.toks) hk
      refine ⟨s1.heap.objs.size + 4, [s1.heap.objs.size + 4, s1.heap.objs.size + 2, s1.heap.objs.size + 3, s1.heap.objs.size, s1.heap.objs.size + 1], _, _, H1, rfl, I2, turn_zipM (PySem.W.ktu_apart s1.heap.objs.size a b la lb), ⟨hz, hTI, ⟨_, _, hTO⟩, ⟨_, g1, rfl, rfl⟩, ⟨_, g2, rfl, rfl⟩⟩, fun c hcm => ?_, q⟩
      have hle : s1.heap.objs.size ≤ c := by
        simp only [List.mem_cons, List.not_mem_nil, or_false] at hcm
        rcases hcm with z | z | z | z | z <;> rw [z]
        · exact Nat.le_add_right _ _
        · exact Nat.le_add_right _ _
        · exact Nat.le_add_right _ _
        · exact Nat.le_refl _
        · exact Nat.le_add_right _ _
      exact I1.fpOk hle (I1.hok.fresh hle)
theorem for_zipM {K : PySem.W.Frag} {a b : Addr} {xs ys : List V} {g : TG} {tb : TS} {D : Ends} {σ : L2.St} {H : Hp} (hl : xs.length = ys.length) (Pv : Nat → L2.St → Hp → Prop) (h0 : Pv 0 σ H) (hq : ∀ i σ H, Pv i σ H → SqT K H a xs ∧ SqL K H b ys)
    (hs : ∀ (i : Nat) (x y : V) (T : Addr) (σ : L2.St) (H : Hp), xs[i]? = some x → ys[i]? = some y → Pv i σ H → H T = none → g (.ref T) σ (upd H T (.tup [x, y])) fun σ2 H2 => tb { D with nx := Pv (i + 1), ct := Pv (i + 1), bk := D.nx } σ2 H2) (hd : ∀ σ H, Pv xs.length σ H → D.nx σ H) :
    ∃ W : Nat → Nat → L2.St → Hp → Prop, (∃ m, W 0 m σ H) ∧ ∀ i m σ H, W i m σ H →
      ((ItzM K a b).stop i H ∧ D.nx σ H) ∨ ((ItzM K a b).go i H ∧ ∃ N : L2.St → Hp → Prop, (∀ σ' H', N σ' H' → ∃ m', m' < m ∧ W (i + 1) m' σ' H') ∧ ∀ v H', (ItzM K a b).yld i H v H' → g v σ H' fun σ2 H2 => tb { D with nx := N, ct := N, bk := D.nx } σ2 H2) := by
  refine ⟨fun i m σ H => m = xs.length - i ∧ i ≤ xs.length ∧ Pv i σ H, ⟨_, rfl, Nat.zero_le _, h0⟩, ?_⟩
  rintro i m σ H ⟨rfl, hi, p⟩
  obtain ⟨qx, qy⟩ := hq i σ H p
  rcases Nat.lt_or_eq_of_le hi with lt | rfl
  · refine .inr ⟨⟨xs, ys, qx, qy, hl, lt⟩, Pv (i + 1), fun σ' H' p' => ⟨_, by omega, rfl, lt, p'⟩, ?_⟩
    rintro v H' ⟨T, x', y', rfl, hT, rfl, f1, f2⟩
    exact hs i x' y' T σ H (f1 xs qx) (f2 ys qy) p hT
  · exact .inl ⟨⟨xs, ys, qx, qy, hl, rfl⟩, hd σ H p⟩
end L2

set_option Elab.async false
set_option linter.all false
set_option pp.deepTerms false
set_option pp.maxSteps 3000
set_option maxRecDepth 100000
set_option maxHeartbeats 8000000
set_option exponentiation.threshold 3000
namespace Gr
open PySem PySem.Spec PyProof.Rows L2
open Pm (Rn)
/-! ### one behind the other: what is found -/
structure Rows (H : Int → Int) (lo hi : Int) (X : List Rn) : Prop where
  rng : ∀ y ∈ X, lo ≤ y.1 ∧ y.1 ≤ y.2.1 ∧ y.2.1 < hi
  at' : ∀ y ∈ X, ∀ z, y.1 ≤ z → z ≤ y.2.1 → H z = y.2.2 + (z - y.1) ∧ H z < H (z + 1)
  pw : X.Pairwise fun a b => a.2.1 < b.1
  cov : ∀ z, lo ≤ z → z < hi → H z < H (z + 1) → ∃ y ∈ X, y.1 ≤ z ∧ z ≤ y.2.1
theorem Rows.nil {H : Int → Int} {a : Int} : Rows H a a [] := ⟨fun y hy => (by cases hy), fun y hy => (by cases hy), List.Pairwise.nil, fun z a b => by omega⟩
theorem Rows.append {H : Int → Int} {a b c : Int} {X Y : List Rn} (h : Rows H a b X) (k : Rows H b c Y) (ab : a ≤ b) (bc : b ≤ c) : Rows H a c (X ++ Y) := by
  refine ⟨fun y hy => ?_, fun y hy => ?_, List.pairwise_append.mpr ⟨h.pw, k.pw, fun x hx y hy => ?_⟩, fun z z0 z1 gr => ?_⟩
  · rcases List.mem_append.mp hy with hy | hy
    · have := h.rng y hy; omega
    · have := k.rng y hy; omega
  · rcases List.mem_append.mp hy with hy | hy
    · exact h.at' y hy
    · exact k.at' y hy
  · have := h.rng x hx
    have := k.rng y hy
    omega
  · by_cases hz : z < b
    · obtain ⟨y, hy, q⟩ := h.cov z z0 hz gr
      exact ⟨y, List.mem_append_left _ hy, q⟩
    · obtain ⟨y, hy, q⟩ := k.cov z (by omega) z1 gr
      exact ⟨y, List.mem_append_right _ hy, q⟩
def shQ (r y : Rn) : Rn := (y.1 - r.2.2 + r.1, y.2.1 - r.2.2 + r.1, y.2.2)
noncomputable def bhZ (c : Int) (rt : List Rn) (r : Rn) (arr : Int) (Y : List Rn) : List Rn :=
  Y.map (shQ r) ++ (if Pm.F c rt (Pm.la r) < Pm.F c rt arr then [(r.2.1, r.2.1, Pm.F c rt (Pm.la r))] else [])
/-- the edge ahead of run i -/
def edge (c : Int) (rs : List Rn) (i : Nat) : Int := if i = rs.length then (rs.headD (0, 0, 0)).1 + c else (rs.getD i (0, 0, 0)).1
def aft (c : Int) (rs : List Rn) : List Rn := rs.drop 1 ++ [Pm.mv c (rs.headD (0, 0, 0))]
theorem aft_len {c : Int} {rs : List Rn} (h : rs ≠ []) : (aft c rs).length = rs.length := by
  have := List.length_pos_iff.mpr h
  unfold aft; rw [List.length_append, List.length_drop, List.length_singleton]; omega
theorem aft_at {c : Int} {rs : List Rn} (ok : Pm.Ok c rs) {i : Nat} {r a : Rn} (hr : rs[i]? = some r) (ha : (aft c rs)[i]? = some a) :
    r.2.1 < a.1 ∧ edge c rs i = r.1 ∧ edge c rs (i + 1) = a.1 ∧ Pm.F c rs (r.2.1 + 1) = a.2.2 ∧ ∀ z w, r.2.1 < z → z < a.1 → ¬ Pm.G c rs z w := by
  have hi := (List.getElem?_eq_some_iff.mp hr).1
  obtain ⟨r', hr', a1, a2⟩ := adj ok (k := 0) hr
  have e1 : edge c rs i = r.1 := by
    unfold edge
    rw [if_neg (by omega), List.getD_eq_getElem?_getD, hr]; rfl
  by_cases e : i + 1 = rs.length
  · rw [if_pos e] at hr' a1 a2
    have e0 : rs.headD (0, 0, 0) = r' := by
      rw [List.headD_eq_head?_getD, List.head?_eq_getElem?, hr']; rfl
    have ea : a = Pm.mv c r' := by
      unfold aft at ha
      rw [List.getElem?_append_right (by rw [List.length_drop]; omega), List.length_drop, e0, show i - (rs.length - 1) = 0 by omega] at ha
      cases ha; rfl
    subst ea
    have m := List.mem_of_getElem? hr'
    have fl := ok.fl r' m
    have g : Pm.G c rs (r'.1 + 1 * c) (r'.2.2 + 1 * c) := Pm.G_move 1 ⟨r', m, 0, by omega, by omega, by omega⟩
    refine ⟨by show _ < r'.1 + c; omega, e1, by unfold edge; rw [if_pos e, e0]; rfl, ?_, fun z w z0 z1 => a2 z w (by omega) (by show _ < r'.1 + (0 + 1) * c; have : z < r'.1 + c := z1; omega)⟩
    rw [F_next ok g (by omega) fun z' y' z0 z1 => a2 z' y' (by omega) (by omega)]
    show _ = r'.2.2 + c; omega
  · rw [if_neg e] at hr' a1 a2
    have ea : a = r' := by
      unfold aft at ha
      rw [List.getElem?_append_left (by rw [List.length_drop]; omega), List.getElem?_drop, Nat.add_comm, hr'] at ha
      cases ha; rfl
    subst ea
    have m := List.mem_of_getElem? hr'
    have fl := ok.fl a m
    refine ⟨by omega, e1, by unfold edge; rw [if_neg e, List.getD_eq_getElem?_getD, hr']; rfl, ?_, fun z w z0 z1 => a2 z w (by omega) (by omega)⟩
    exact F_next ok (z := a.1) ⟨a, m, 0, by omega, by omega, by omega⟩ (by omega) fun z' y' z0 z1 => a2 z' y' (by omega) (by omega)
theorem bh_rows {c : Int} {rs rt Y : List Rn} {r a : Rn} (ok : Pm.Ok c rs) (ok' : Pm.Ok c rt) (m : r ∈ rs) (h1 : r.2.1 < a.1) (h2 : Pm.F c rs (r.2.1 + 1) = a.2.2) (h3 : ∀ z w, r.2.1 < z → z < a.1 → ¬ Pm.G c rs z w) (wi : Within c rt r.2.2 (Pm.la r - 1) Y) :
    Rows (fun x => Pm.F c rt (Pm.F c rs x)) r.1 a.1 (bhZ c rt r a.2.2 Y) := by
  have fl := ok.fl r m
  have ela : Pm.la r = r.2.2 + r.2.1 - r.1 := rfl
  have fz : ∀ z, r.1 ≤ z → z ≤ r.2.1 → Pm.F c rs z = r.2.2 + (z - r.1) := fun z z0 z1 => by
    rw [F_last ok (z := z) ⟨r, m, 0, by omega, by omega, rfl⟩]; omega
  have fE : Pm.F c rs r.2.1 = Pm.la r := by rw [fz _ fl (Int.le_refl _)]; omega
  have pa : Rows (fun x => Pm.F c rt (Pm.F c rs x)) r.1 r.2.1 (Y.map (shQ r)) := by
    refine ⟨fun y hy => ?_, fun y hy z z0 z1 => ?_, ?_, fun z z0 z1 gr => ?_⟩
    · obtain ⟨x, hx, rfl⟩ := List.mem_map.mp hy
      have := wi.rng x hx
      unfold shQ; simp only []; omega
    · obtain ⟨x, hx, rfl⟩ := List.mem_map.mp hy
      have q := wi.rng x hx
      unfold shQ at z0 z1 ⊢
      simp only [] at z0 z1 ⊢
      rw [fz z (by omega) (by omega), fz (z + 1) (by omega) (by omega)]
      have := wi.at' x hx (r.2.2 + (z - r.1)) (by omega) (by omega)
      rw [show r.2.2 + (z + 1 - r.1) = r.2.2 + (z - r.1) + 1 by omega]
      exact ⟨by rw [this.1]; omega, this.2⟩
    · rw [List.pairwise_map]
      exact wi.pw.imp fun {x y} l => by unfold shQ; simp only []; omega
    · have gr : Pm.F c rt (Pm.F c rs z) < Pm.F c rt (Pm.F c rs (z + 1)) := gr
      rw [fz z (by omega) (by omega), fz (z + 1) (by omega) (by omega), show r.2.2 + (z + 1 - r.1) = r.2.2 + (z - r.1) + 1 by omega] at gr
      obtain ⟨y, hy, q1, q2⟩ := wi.cov _ (by omega) (by omega) gr
      exact ⟨shQ r y, List.mem_map.mpr ⟨y, hy, rfl⟩, by unfold shQ; simp only []; omega, by unfold shQ; simp only []; omega⟩
  have pb : Rows (fun x => Pm.F c rt (Pm.F c rs x)) r.2.1 (r.2.1 + 1) (if Pm.F c rt (Pm.la r) < Pm.F c rt a.2.2 then [(r.2.1, r.2.1, Pm.F c rt (Pm.la r))] else []) := by
    by_cases z : Pm.F c rt (Pm.la r) < Pm.F c rt a.2.2
    · rw [if_pos z]
      refine ⟨fun y hy => ?_, fun y hy x x0 x1 => ?_, List.pairwise_singleton _ _, fun x x0 x1 _ => ⟨_, List.mem_singleton_self _, x0, by show x ≤ r.2.1; omega⟩⟩
      · rw [List.mem_singleton.mp hy]; simp only []; omega
      · rw [List.mem_singleton.mp hy] at x0 x1 ⊢
        simp only [] at x0 x1 ⊢
        have e : x = r.2.1 := by omega
        subst e
        rw [fE, h2]
        exact ⟨by omega, z⟩
    · rw [if_neg z]
      refine ⟨fun y hy => (by cases hy), fun y hy => (by cases hy), List.Pairwise.nil, fun x x0 x1 gr => ?_⟩
      have e : x = r.2.1 := by omega
      subst e
      have gr : Pm.F c rt (Pm.F c rs r.2.1) < Pm.F c rt (Pm.F c rs (r.2.1 + 1)) := gr
      rw [fE, h2] at gr
      exact absurd gr z
  have pc : Rows (fun x => Pm.F c rt (Pm.F c rs x)) (r.2.1 + 1) a.1 [] := by
    refine ⟨fun y hy => (by cases hy), fun y hy => (by cases hy), List.Pairwise.nil, fun x x0 x1 gr => ?_⟩
    exfalso
    have gr : Pm.F c rt (Pm.F c rs x) < Pm.F c rt (Pm.F c rs (x + 1)) := gr
    by_cases e : Pm.F c rs x < Pm.F c rs (x + 1)
    · obtain ⟨w, hw⟩ := (F_grows ok x).mpr e
      exact h3 x w (by omega) x1 hw
    · have := F_mono ok (show x ≤ x + 1 by omega)
      have e' : Pm.F c rs x = Pm.F c rs (x + 1) := by omega
      rw [e'] at gr
      omega
  have := (pa.append pb fl (by omega)).append pc (by omega) (by omega)
  rw [List.append_nil] at this
  exact this
theorem bhZ_len (c : Int) (rt : List Rn) (r : Rn) (arr : Int) (Y : List Rn) : (bhZ c rt r arr Y).length ≤ Y.length + 1 := by
  unfold bhZ
  rw [List.length_append, List.length_map]
  have := ite_len (p := Pm.F c rt (Pm.la r) < Pm.F c rt arr) (r.2.1, r.2.1, Pm.F c rt (Pm.la r))
  omega
end Gr

set_option Elab.async false
set_option linter.all false
set_option pp.deepTerms false
set_option pp.maxSteps 3000
set_option maxRecDepth 100000
set_option maxHeartbeats 8000000
set_option exponentiation.threshold 3000
namespace Gr
open PySem PySem.Spec PyProof.Rows L2
open Pm (Rn)
def spBehind : Sp := fun vs H Q _ => ∃ (c : Int) (a b : Addr) (rs rt : List Rn), vs = [.int c, .ref a, .ref b] ∧ RnsT H a rs ∧ RnsT H b rt ∧ Pm.Can c rs ∧ Pm.Can c rt ∧ c ≤ 10 ^ 30 ∧ BA (10 ^ 200) rs ∧ rt.length ≤ 40000 ∧ rs.length ≤ 40000 ∧ rs.length * (rt.length + 2) ≤ 50000 ∧
  ∀ t H' X, Same H H' → H t = none → RnsT H' t X → Pm.RowsOf c (fun x => Pm.F c rt (Pm.F c rs x)) X → X.length ≤ rs.length * (rt.length + 2) → Q (.ref t) H'
theorem paired_tl {α β : Type} {R : α → β → Prop} {xs : List α} {ys : List β} (h : Paired R xs ys) : Paired R (xs.drop 1) (ys.drop 1) := by
  cases h with
  | nil => exact .nil
  | cons _ t => exact t
theorem app_rns {G : Hp} {F T : Addr} {us ys xs : List V} {rs : List Rn} {o : HO} (hF : G F = some (.lst us)) (hT : G T = none) (h : Paired (RnAt G) xs rs) : Paired (RnAt (upd (upd G T o) F (.lst ys))) xs rs :=
  L2.Paired.mapP h fun _ _ ⟨b, e, hb⟩ => ⟨b, e, app_keep hF hT hb⟩
theorem fit_arr {x e : Int} (h0 : -(10 ^ 201) ≤ x) (h1 : x ≤ 10 ^ 201) (e0 : 0 ≤ e) (e1 : e ≤ 10 ^ 31) : Fit (e - x) := by
  unfold Fit
  have : (10 : Int) ^ 201 + 10 ^ 31 ≤ 10 ^ 300 := by decide +kernel
  omega
section
variable {P : Program} {w : World} {K : PySem.W.Frag} {mg : Str → Option Value} {base : Heap} {tC : Tok}
theorem ok_behind {f f1 f2 f3 f4 f5 f6 : Addr} {fd fd1 fd2 fd3 fd4 fd5 fd6 : FuncData} (B : Blt mg tC) (Dbehind_runs : Def K mg "behind_runs" s_behind_runs ["cycle", "runs", "others"] f fd) (Dmoved : Def K mg "moved" s_moved ["run", "ticks"] f1 fd1) (Dlast_arrival : Def K mg "last_arrival" s_last_arrival ["run"] f2 fd2) (Druns_within : Def K mg "runs_within" s_runs_within ["cycle", "runs", "low", "high"] f3 fd3) (Darrival_at : Def K mg "arrival_at" s_arrival_at ["cycle", "runs", "start"] f4 fd4) (Dplace_of : Def K mg "place_of" s_place_of ["cycle", "runs", "start"] f5 fd5) (Darrival_by_run : Def K mg "arrival_by_run" s_arrival_by_run ["run", "start"] f6 fd6) : FnOk P w K mg base CX0 3 f fd ["cycle", "runs", "others"] spBehind := by
  have Gmoved := ok_moved (P := P) (w := w) (base := base) B Dmoved
  have Glast_arrival := ok_last_arr (P := P) (w := w) (base := base) B Dlast_arrival
  have Gruns_within := ok_within (P := P) (w := w) (base := base) B Druns_within Dplace_of Dmoved
  have Garrival_at := ok_arrAt (P := P) (w := w) (base := base) B Darrival_at Dplace_of Darrival_by_run Dmoved
  refine Dbehind_runs.F.ok scbehind_runs (fun vs H Q E h => ?_) (fun cdv A outer s H vs Q E hr h => ⟨_, (pss_cons (ps_set (i := 3) scbehind_runs.nd rfl (Or.inl rfl) (pe_lst pa_nil))
  (pss_cons (ps_for PassesOwn.never rfl (pi_zipM (by rfl) B.n_zip (pa_cons (pv 1) (pa_cons (pe_lst (StX.pa_star (pe_slice sl_tupA (pv 1) (po_some pe_int) po_none) (pa_cons (pe_call Gmoved (hr.mono (by decide)) (by rfl) Dmoved.g Dmoved.F.kp Dmoved.b .nil pass0 (pa_cons (pe_ix ix_tup (pv 1) pe_int (fun _ _ => rfl)) (pa_cons (pv 0) pa_nil))) pa_nil))) pa_nil))) (pg_tup rfl (pgs_cons (pg_name (i := 4) scbehind_runs.nd rfl (Or.inl rfl)) (pgs_cons (pg_name (i := 5) scbehind_runs.nd rfl (Or.inl rfl)) pgs_nil)))
   (pss_cons (ps_asg (pv 4) (pg_tup rfl (pgs_cons (pg_name (i := 6) scbehind_runs.nd rfl (Or.inl rfl)) (pgs_cons (pg_name (i := 7) scbehind_runs.nd rfl (Or.inl rfl)) (pgs_cons (pg_name (i := 8) scbehind_runs.nd rfl (Or.inl rfl)) pgs_nil)))))
  (pss_cons (ps_set (i := 9) scbehind_runs.nd rfl (Or.inl rfl) (pe_call Glast_arrival (hr.mono (by decide)) (by rfl) Dlast_arrival.g Dlast_arrival.F.kp Dlast_arrival.b .nil pass0 (pa_cons (pv 4) pa_nil)))
  (pss_cons (ps_for PassesOwn.never rfl (pi_list (pe_call Gruns_within (hr.mono (by decide)) (by rfl) Druns_within.g Druns_within.F.kp Druns_within.b .nil pass0 (pa_cons (pv 0) (pa_cons (pv 2) (pa_cons (pv 8) (pa_cons (pe_op op_sub (pv 9) pe_int) pa_nil)))))) (pg_tup rfl (pgs_cons (pg_name (i := 10) scbehind_runs.nd rfl (Or.inl rfl)) (pgs_cons (pg_name (i := 11) scbehind_runs.nd rfl (Or.inl rfl)) (pgs_cons (pg_name (i := 12) scbehind_runs.nd rfl (Or.inl rfl)) pgs_nil))))
   (pss_one (ps_expr (pe_bm PySem.F.plainAttrs_list PySem.F.slot_list_append PySem.F.type_list_append mt_append (pv 3) (pa_cons (pe_tup (pa_cons (pe_op op_add (pe_op op_sub (pv 10) (pv 8)) (pv 6)) (pa_cons (pe_op op_add (pe_op op_sub (pv 11) (pv 8)) (pv 6)) (pa_cons (pv 12) pa_nil)))) pa_nil)))))
  (pss_cons (ps_set (i := 12) scbehind_runs.nd rfl (Or.inl rfl) (pe_call Garrival_at (hr.mono (by decide)) (by rfl) Darrival_at.g Darrival_at.F.kp Darrival_at.b .nil pass0 (pa_cons (pv 0) (pa_cons (pv 2) (pa_cons (pv 9) pa_nil)))))
  (pss_one (ps_if (pt_cmpR op_lt (pv 12) (pe_call Garrival_at (hr.mono (by decide)) (by rfl) Darrival_at.g Darrival_at.F.kp Darrival_at.b .nil pass0 (pa_cons (pv 0) (pa_cons (pv 2) (pa_cons (pe_ix ix_tup (pv 5) pe_int (fun _ _ => rfl)) pa_nil)))) (nomark _))
   (pss_one (ps_expr (pe_bm PySem.F.plainAttrs_list PySem.F.slot_list_append PySem.F.type_list_append mt_append (pv 3) (pa_cons (pe_tup (pa_cons (pv 7) (pa_cons (pv 7) (pa_cons (pv 12) pa_nil)))) pa_nil))))
   pss_nil)))))))
  (pss_one (ps_ret (pe_callTy call_tuple_of (by rfl) B.n_tuple (by decide +kernel) (pa_cons (pv 3) pa_nil)))))), ?_⟩)
  · obtain ⟨c, a, b, rs, rt, rfl, _⟩ := h; rfl
  · obtain ⟨c, a, b, rs, rt, rfl, hS, hT, can, can', c30, ba, lt, ls, lp, q⟩ := h
    have ok := can.1
    have ok' := can'.1
    have c1 := ok.c1
    obtain ⟨us, ha, hU⟩ := id hS
    have lu := paired_len hU
    have nr := List.length_pos_iff.mpr ok.ne
    obtain ⟨r0, hr0⟩ : ∃ r0, rs[0]? = some r0 := ⟨_, List.getElem?_eq_getElem nr⟩
    obtain ⟨x0, hx0⟩ : ∃ x0, us[0]? = some x0 := ⟨_, List.getElem?_eq_getElem (by omega)⟩
    obtain ⟨r0', hr0', b0, rfl, hb0⟩ := paired_at hU hx0
    rw [hr0] at hr0'
    cases hr0'
    have e0 : rs.headD (0, 0, 0) = r0 := by rw [List.headD_eq_head?_getD, List.head?_eq_getElem?, hr0]; rfl
    have nu : us ≠ [] := fun e => by rw [e] at lu; exact absurd lu.symm (by show ¬ rs.length = 0; omega)
    have p31 : (10 : Int) ^ 31 = 10 * 10 ^ 30 := by decide +kernel
    have fitA : ∀ x : Int, -(10 ^ 201) ≤ x → x ≤ 10 ^ 201 → ∀ r ∈ rt, Fit (r.2.1 - x) := fun x h0 h1 r hr => by
      have := can_rng can' r hr
      exact fit_arr h0 h1 (by omega) (by omega)
    have p200 : (10 : Int) ^ 201 = 10 * 10 ^ 200 := by decide +kernel
    have p30 : (10 : Int) ^ 30 ≤ 10 ^ 200 := by decide +kernel
    refine ⟨Nat.zero_le _, fun F hF => ?_⟩
    have sF := Same.new hF (o := .lst [])
    refine ⟨_, rfl, _, rfl, 1, rfl, a, _, rfl, SqT.of (sF _ _ ha), fun h => ?_, fun _ S hS' => ?_⟩
    · exfalso
      have e1 := HT.sIx_nat us.length 0 1
      rw [show ((1 : Nat) : Int) = 1 from rfl] at e1
      rw [e1] at h
      omega
    rw [cut_tl _ nu]
    have sS := sF.trans (Same.new hS' (o := .tup (us.drop 1)))
    refine ⟨S, _, rfl, .inl (SqT.of upd_same), ?_⟩
    have sS2 := Same.new hS' (o := .tup (us.drop 1))
    have hF1 := sS2 _ _ (upd_same (H := H) (a := F) (o := .lst []))
    refine ⟨_, rfl, a, _, _, _, rfl, rfl, SqT.of (sS _ _ ha), atI_nat (j := 0) hx0, _, rfl, b0, c, [r0.1, r0.2.1, r0.2.2], rfl, sS _ _ hb0, Nat.le_of_ble_eq_true rfl, fun m1 H1 s1 n1 e1 => ?_⟩
    have sz : (us.drop 1 ++ [V.ref m1]).length ≤ sizeLine := Nat.le_of_lt (smallL (by rw [List.length_append, List.length_drop, List.length_singleton]; omega))
    refine ⟨sz, fun La hLa => ?_⟩
    have sH1 := sS.trans s1
    have hF2 := s1 _ _ hF1
    obtain ⟨H2, eH2⟩ : ∃ H2, H2 = upd H1 La (.lst (us.drop 1 ++ [V.ref m1])) := ⟨_, rfl⟩
    have s2 : Same H1 H2 := by rw [eH2]; exact Same.new hLa
    have hL2 : H2 La = some (.lst (us.drop 1 ++ [V.ref m1])) := by rw [eH2]; exact upd_same
    refine ⟨a, La, us, us.drop 1 ++ [V.ref m1], rfl, ?_⟩
    rw [← eH2]
    have hA2 : Paired (RnAt H2) (us.drop 1 ++ [V.ref m1]) (aft c rs) := by
      unfold aft
      rw [e0]
      exact paired_snoc (rns_mono (sH1.trans s2) (paired_tl hU)) ⟨m1, rfl, s2 _ _ e1⟩
    have nLF : La ≠ F := fun e => by rw [e, hF2] at hLa; cases hLa
    have sH2 := sH1.trans s2
    have hls : us.length = (us.drop 1 ++ [V.ref m1]).length := by rw [List.length_append, List.length_drop, List.length_singleton]; omega
    refine ⟨SqT.of (sH2 _ _ ha), SqL.of hL2, ?_⟩
    refine for_zipM hls (fun i σ H' => ∃ (xs : List V) (X : List Rn) (y4 y5 y6 y7 y8 y9 y10 y11 y12 : Option V), σ = [some (.int c), some (.ref a), some (.ref b), some (.ref F), y4, y5, y6, y7, y8, y9, y10, y11, y12] ∧ Same H H' ∧ H' La = some (.lst (us.drop 1 ++ [V.ref m1])) ∧ Paired (RnAt H') (us.drop 1 ++ [V.ref m1]) (aft c rs) ∧
        H' F = some (.lst xs) ∧ Paired (RnAt H') xs X ∧ Rows (fun x => Pm.F c rt (Pm.F c rs x)) (edge c rs 0) (edge c rs i) X ∧ edge c rs 0 ≤ edge c rs i ∧ X.length ≤ i * (rt.length + 2))
      ⟨[], [], _, _, _, _, _, _, _, _, _, rfl, sH2, hL2, hA2, s2 _ _ hF2, .nil, Rows.nil, Int.le_refl _, Nat.zero_le _⟩ (fun i σ H' ⟨_, _, _, _, _, _, _, _, _, _, _, _, s3, h3, _⟩ => ⟨SqT.of (s3 _ _ ha), SqL.of h3⟩) ?_ ?_
    · rintro i x y T σ H3 hx hy ⟨xs, X, y4, y5, y6, y7, y8, y9, y10, y11, y12, rfl, s3, hL3, hA3, hF3, hX3, rows, ee, lX⟩ hT0
      obtain ⟨r, hri, bx, rfl, hbx⟩ := paired_at hU hx
      obtain ⟨an, han, bn, rfl, hbn⟩ := paired_at hA3 hy
      have hi := (List.getElem?_eq_some_iff.mp hri).1
      have mr := List.mem_of_getElem? hri
      obtain ⟨q1, q2, q3, q4, q5⟩ := aft_at ok hri han
      have rr := can_rng can r mr
      have bar := ba r mr
      have ela : Pm.la r = r.2.2 + r.2.1 - r.1 := rfl
      have ban : -(10 ^ 201) ≤ an.2.2 ∧ an.2.2 ≤ 10 ^ 201 := by
        have m2 := List.mem_of_getElem? han
        unfold aft at m2
        rcases List.mem_append.mp m2 with m2 | m2
        · have := ba an (List.mem_of_mem_drop m2); omega
        · rw [List.mem_singleton.mp m2, e0]
          have := ba r0 (List.mem_of_getElem? hr0)
          show -(10 ^ 201) ≤ r0.2.2 + c ∧ r0.2.2 + c ≤ 10 ^ 201
          omega
      have lpi : (i + 1) * (rt.length + 2) ≤ 50000 := Nat.le_trans (Nat.mul_le_mul_right _ hi) lp
      rw [Nat.succ_mul] at lpi
      have sT := Same.new hT0 (o := .tup [.ref bx, .ref bn])
      obtain ⟨H4, eH4⟩ : ∃ H4, H4 = upd H3 T (.tup [.ref bx, .ref bn]) := ⟨_, rfl⟩
      have hT4 : H4 T = some (.tup [.ref bx, .ref bn]) := by rw [eH4]; exact upd_same
      rw [← eH4] at sT ⊢
      have s4 := s3.trans sT
      refine ⟨T, _, rfl, SqT.of hT4, rfl, _, _, rfl, _, _, rfl, rfl, ?_⟩
      refine ⟨_, rfl, bx, _, rfl, SqT.of (s4 _ _ hbx), rfl, _, _, rfl, _, _, rfl, _, _, rfl, rfl, ?_⟩
      refine ⟨_, rfl, _, r, rfl, ⟨bx, rfl, s4 _ _ hbx⟩, ?_⟩
      refine ⟨_, rfl, _, rfl, _, rfl, _, rfl, _, _, rfl, rfl, c, r.2.2, Pm.la r - 1, b, rt, rfl, hT.mono s4, ok', c30, lt, fitA _ (by omega) (by omega), by omega, fun L ys H5 Y s5 n5 e5 hY wi lY => ?_⟩
      refine ⟨L, rfl, ⟨_, SqL.of e5⟩, ?_⟩
      have nLF2 : L ≠ F := fun e => by
        have := sT _ _ hF3
        rw [← e, n5] at this; cases this
      refine for_list (xs := ys) (fun j σ H' => ∃ (xs2 : List V) (y10 y11 y12 : Option V), σ = [some (.int c), some (.ref a), some (.ref b), some (.ref F), some (.ref bx), some (.ref bn), some (.int r.1), some (.int r.2.1), some (.int r.2.2), some (.int (Pm.la r)), y10, y11, y12] ∧ Same H H' ∧ H' La = some (.lst (us.drop 1 ++ [V.ref m1])) ∧ Paired (RnAt H') (us.drop 1 ++ [V.ref m1]) (aft c rs) ∧ H' L = some (.lst ys) ∧ Paired (RnAt H') ys Y ∧ H' F = some (.lst xs2) ∧ Paired (RnAt H') xs2 (X ++ (Y.take j).map (shQ r)))
        ⟨xs, _, _, _, rfl, s4.trans s5, s5 _ _ (sT _ _ hL3), rns_mono (sT.trans s5) hA3, e5, hY, s5 _ _ (sT _ _ hF3), by rw [List.take_zero, List.map_nil, List.append_nil]; exact rns_mono (sT.trans s5) hX3⟩ (fun j σ H' _ ⟨_, _, _, _, _, _, _, _, e, _⟩ => SqL.of e) ?_ ?_
      · rintro j v σ H6 hv ⟨xs2, y10, y11, y12, rfl, s6, hL6, hA6, e6, hY6, hF6, hX6⟩
        obtain ⟨yr, hyr, bq, rfl, hbq⟩ := paired_at hY6 hv
        have l6 := paired_len hX6
        rw [List.length_append, List.length_map, List.length_take] at l6
        refine ⟨bq, _, rfl, SqT.of hbq, rfl, _, _, rfl, _, _, rfl, _, _, rfl, rfl, ?_⟩
        refine ⟨_, rfl, .inl ⟨rfl, _, SqL.of hF6⟩, _, rfl, _, rfl, _, _, rfl, rfl, _, rfl, _, _, rfl, rfl, _, rfl, _, rfl, _, _, rfl, rfl, _, rfl, _, _, rfl, rfl, _, rfl, (by show 3 ≤ sizeLine; decide), fun T2 hT2 => ?_⟩
        refine ⟨F, xs2, _, rfl, rfl, Same.new hT2 _ _ hF6, smallL (by omega), ?_⟩
        refine ⟨_, _, _, _, rfl, app_same (us := xs2) hF s6 hT2, app_list (us := xs2) hT2 hL6 nLF, app_rns hF6 hT2 hA6, app_list (us := xs2) hT2 e6 nLF2, app_rns hF6 hT2 hY6, upd_same, ?_⟩
        have := app_row hF6 hT2 hX6 (shQ r yr)
        rw [List.append_assoc, show (Y.take j).map (shQ r) ++ [shQ r yr] = (Y.take (j + 1)).map (shQ r) by rw [List.take_add_one, hyr, List.map_append]; rfl] at this
        exact this
      · rintro σ H6 ⟨xs2, y10, y11, y12, rfl, s6, hL6, hA6, e6, hY6, hF6, hX6⟩
        rw [paired_len hY6, List.take_of_length_le (Nat.le_refl _)] at hX6
        have l6 := paired_len hX6
        rw [List.length_append, List.length_map] at l6
        have e23 : edge c rs i ≤ edge c rs (i + 1) := by rw [q2, q3]; omega
        have bhR := bh_rows ok ok' mr q1 q4 q5 wi
        rw [← q2, ← q3] at bhR
        have newR := rows.append bhR ee e23
        have lenR := bhZ_len c rt r an.2.2 Y
        refine ⟨_, rfl, _, rfl, _, rfl, c, Pm.la r, b, rt, rfl, hT.mono s6, ok', c30, by omega, fitA _ (by omega) (by omega), fun H7 s7 => ?_⟩
        obtain ⟨w, hw, z, ez, hz⟩ := paired_at hA6 hy
        rw [han] at hw
        cases hw
        cases ez
        refine ⟨_, rfl, _, rfl, _, rfl, _, rfl, bn, _, _, _, rfl, rfl, SqT.of (s7 _ _ hz), atI_nat (j := 2) rfl, c, an.2.2, b, rt, rfl, hT.mono (s6.trans s7), ok', c30, by omega, fitA _ ban.1 ban.2, fun H8 s8 => ?_⟩
        have s68 := s7.trans s8
        have hF8 := s68 _ _ hF6
        have hX8 := rns_mono s68 hX6
        have hA8 := rns_mono s68 hA6
        have hL8 := s68 _ _ hL6
        have sH8 := s6.trans s68
        have ei : (i + 1) * (rt.length + 2) = i * (rt.length + 2) + (rt.length + 2) := Nat.succ_mul _ _
        refine ⟨_, _, rfl, rfl, ?_⟩
        by_cases z : Pm.F c rt (Pm.la r) < Pm.F c rt an.2.2
        · refine ⟨true, congrArg V.bl (decide_eq_true z), ?_⟩
          have eB : bhZ c rt r an.2.2 Y = Y.map (shQ r) ++ [(r.2.1, r.2.1, Pm.F c rt (Pm.la r))] := by unfold bhZ; rw [if_pos z]
          refine ⟨_, rfl, .inl ⟨rfl, _, SqL.of hF8⟩, _, rfl, _, rfl, _, rfl, (by show 3 ≤ sizeLine; decide), fun T3 hT3 => ?_⟩
          refine ⟨F, xs2, _, rfl, rfl, Same.new hT3 _ _ hF8, smallL (by omega), ?_⟩
          refine ⟨_, X ++ bhZ c rt r an.2.2 Y, _, _, _, _, _, _, _, _, _, rfl, app_same (us := xs2) hF sH8 hT3, app_list (us := xs2) hT3 hL8 nLF, app_rns hF8 hT3 hA8, upd_same, ?_, newR, by omega, ?_⟩
          · have := app_row hF8 hT3 hX8 (r.2.1, r.2.1, Pm.F c rt (Pm.la r))
            rw [List.append_assoc, ← eB] at this
            exact this
          · rw [ei, List.length_append]; omega
        · refine ⟨false, congrArg V.bl (decide_eq_false z), ?_⟩
          have eB : bhZ c rt r an.2.2 Y = Y.map (shQ r) := by unfold bhZ; rw [if_neg z, List.append_nil]
          refine ⟨_, X ++ bhZ c rt r an.2.2 Y, _, _, _, _, _, _, _, _, _, rfl, sH8, hL8, hA8, hF8, by rw [eB]; exact hX8, newR, by omega, ?_⟩
          rw [ei, List.length_append]; omega
    · rintro σ H3 ⟨xs, X, y4, y5, y6, y7, y8, y9, y10, y11, y12, rfl, s3, hL3, hA3, hF3, hX3, rows, ee, lX⟩
      rw [lu] at rows lX
      refine ⟨_, rfl, F, xs, rfl, .inl ⟨SqL.of hF3, fun l hl' => ?_⟩⟩
      have eN : edge c rs rs.length = edge c rs 0 + c := by
        unfold edge
        rw [if_pos rfl, if_neg (by omega), e0, List.getD_eq_getElem?_getD, hr0]; rfl
      rw [eN] at rows
      have eR : 0 ≤ edge c rs 0 ∧ edge c rs 0 < c := by
        have e00 : edge c rs 0 = r0.1 := by unfold edge; rw [if_neg (by omega), List.getD_eq_getElem?_getD, hr0]; rfl
        have := can_rng can r0 (List.mem_of_getElem? hr0)
        rw [e00]; omega
      refine q l _ X (s3.trans (Same.new hl')) (Same.free s3 hl') ⟨xs, upd_same, rns_mono (Same.new hl') hX3⟩ ⟨⟨_, eR, rows.rng, rows.cov⟩, rows.at', rows.pw⟩ lX
end
end Gr

set_option Elab.async false
set_option linter.all false
set_option maxRecDepth 100000
set_option maxHeartbeats 4000000
/-! operators of a class of the program, and != where the class has == alone -/
namespace OwN
open PySem PySem.W PySem.Spec PySem.Calls PyProof.Rows
section
variable {prog : Program} {w : World} {A : Around} {E : Value → Shared → Prop} {s : Shared} {K : Frag} {x C f : Addr} {ox : Obj} {od : Option Obj}
theorem ne_bind (self : Value) : bindSpecial (.builtin "object.__ne__") self = pure (.builtin "object.__ne__", [self]) := F.slot_zip_ne.bind self
theorem bound_blt {M : Model} {name : Str} {id : String} {args : List Value} {Q : Option Value → Shared → Prop} (X : K.In s.heap) (I : InstAt s.heap x ox C od) (hs : findIn K (.ref C) name = some (some (.builtin id))) (hb : ∀ self, bindSpecial (.builtin id) self = pure (.builtin id, [self]))
    (h : wpAny M A (call (.builtin id) (.ref x :: args)) (fun v => Q (some v)) E s) : wpAny M A (callSpecialIfBound? (.ref x) name args) Q E s := by
  simp only [callSpecialIfBound?, bindSpecialIfBound?]
  refine wpAny_holding (wpAny_bind (wpAny_bind (wpAny_bind (I.type.here ((looks_findIn X hs).here ?_)))))
  have go : wpAny M A (call (.builtin id) ([.ref x] ++ args) >>= fun v => pure (some v)) Q E s := wpAny_bind (wpAny_mono h (fun v s' q => wpAny_pure q) fun _ _ q => q)
  refine wpAny_bind (wpAny_askSetting (wpAny_ite ?_))
  split
  · exact wpAny_bind ((Looks.of_pure (hb _)).here (wpAny_pure (by exact go)))
  · exact wpAny_tryCatch (wpAny_bind ((Looks.of_pure (hb _)).here (wpAny_pure (by exact go))))
open Builtin in
theorem ne_blt {b : Value} {Q : Value → Shared → Prop} (hu : A.in1.units < cLine) (X : K.In s.heap) (I : InstAt s.heap x ox C od) (hm : mroIn K C (.type "object") = some true) (he : findIn K (.ref C) "__eq__" = some (some (.ref f))) (hf : isFn K (.ref f) = true)
    (h : wpAny (model prog w) A.in1 (call (.ref f) [.ref x, b]) (fun v s' => v = .bool true ∧ Q (.bool false) s') E s) : wpAny (model prog w) A (call (.builtin "object.__ne__") [.ref x, b]) Q E s := by
  refine wpAny_call (codeAny_call_builtin F.slot_zip_ne.plain F.cmpEntry_ne (check_slot (i := "object.__ne__") (owner := "object") (n := "__ne__") F.cmpKind_ne F.cmpSplit_ne (I.type.andThen (looks_mroIn X hm)) (F.cmpArgs_ne _ _) ?_))
  unfold Builtin.«object.__ne__»
  refine wpAny_bind (m := slotArgs "__ne__" 1 _) (wpAny_pure ?_)
  refine wpAny_bind (m := cRoomFor _ _) (wpAny_cRoomFor hu ?_)
  refine wpAny_bind (m := callSpecialIfBound? (.ref x) (Str.ofString "__eq__") _) (ifBound_K X I he hf (wpAny_mono h (fun r s' hq => ?_) fun _ _ y => y))
  obtain ⟨rfl, hq⟩ := hq
  refine wpAny_bind (m := truthy (.bool true)) (wpAny_truthy_bool ?_)
  exact wpAny_pure hq
theorem ne_K {b : Addr} {Q : Value → Shared → Prop} {L : Addr} {h₀ : Heap} {m : Str → Option Value} {oy : Obj} {od' : Option Obj} (hu : A.units < cLine) (hu1 : A.in1.units < cLine) (F₀ : Fr h₀ L s.heap m) (X₀ : K.In h₀) (I : InstAt s.heap x ox C od) (J : InstAt s.heap b oy C od') (hm : mroIn K C (.type "object") = some true)
    (hn : findIn K (.ref C) "__ne__" = some (some (.builtin "object.__ne__"))) (he : findIn K (.ref C) "__eq__" = some (some (.ref f))) (hf : isFn K (.ref f) = true)
    (h : wpAny (model prog w) A.in1 (call (.ref f) [.ref x, .ref b]) (fun v s' => v = .bool true ∧ Q (.bool false) s') E s) : wpAny (model prog w) A (richCompare .NotEq (.ref x) (.ref b)) Q E s := by
  have X := X₀.keeps F₀.keep
  have one : wpAny (model prog w) A (tryCompare (.ref x) (cmpInfo .NotEq).2.1 (.ref b)) (fun r s' => ∃ v, r = some v ∧ Q v s') E s := by
    unfold tryCompare
    refine wpAny_bind (bound_blt X I hn ne_bind (ne_blt hu1 X I hm he hf (wpAny_mono h (fun v s' hv => ⟨hv.1, ?_⟩) fun _ _ e => e)))
    exact wpAny_pure ⟨_, rfl, hv.2⟩
  unfold richCompare
  simp only [oneThing_ref]
  refine wpAny_holding (wpAny_bind (wpAny_cRoomFor hu ?_))
  refine wpAny_bind (I.type.here (wpAny_bind (J.type.here ?_)))
  rw [show (Value.ref C != Value.ref C) = false by simp]
  simp only [Bool.false_eq_true, if_false]
  refine wpAny_bind (wpAny_pure ?_)
  simp only [Bool.false_eq_true, if_false]
  refine wpAny_bind (wpAny_mono one (fun r s' z => ?_) fun _ _ e => e)
  obtain ⟨v, rfl, hq⟩ := z
  exact wpAny_pure hq
end
end OwN
namespace L2
open PySem PySem.Spec PyProof.Rows
section
variable {X : Cx} {n : Nat}
/-- x op y, both instances of the class at C with its own def for op -/
def rBinP (C : Addr) (sp : Sp) (E : XK) : R2 := fun x y H Q => ∃ a b dx dy fs gs, x = .ref a ∧ y = .ref b ∧ H a = some (.ins C dx fs) ∧ H b = some (.ins C dy gs) ∧ sp [.ref a, .ref b] H Q E
theorem op_binP {op : Operator} {CX : CXT} {C f : Addr} {fd : FuncData} {ps : List Str} {sp : Sp} {E : XK} {nm : Str} (e : (PySem.dunder op.info.2 : Str) = nm) (M : Meth X.K C nm f) (F : FnOk X.prog X.w X.K X.mg X.base CX n f fd ps sp) (hb : Binds X.K fd ps [])
    (sf : PySem.W.selfFirst X.K C = true) (hr : Room n X.A) (hx : Passes CX X E) : OpR X (binaryOp op) (rBinP C sp E) := by
  intro pins s σ H x y v u Q I rx ry h
  obtain ⟨a, b, dx, dy, fs, gs, rfl, rfl, ha, hb', q⟩ := h
  cases rx
  cases ry
  obtain ⟨mA, J, _⟩ := ins_get I.hok ha
  obtain ⟨mB, J', _⟩ := ins_get I.hok hb'
  obtain ⟨od, J, _⟩ := J.look
  obtain ⟨od', J', _⟩ := J'.look
  obtain ⟨m, hF⟩ := I.fr
  have at_ := M.at_
  rw [← e] at at_
  refine PySem.W.binop_K hF I.ok.mod.kin J J'.type sf at_ M.fn ?_
  have r2 : Vals [V.ref a, V.ref b] [Value.ref a, Value.ref b] := .cons rfl (.cons rfl .nil)
  refine wpAny_mono (wpAny_call (run_fnR (us := [.ref a, .ref b]) (vs := [.ref a, .ref b]) (F.raw hb .nil) hr hx I r2 (by exact q))) (fun z s' hz => ?_) fun _ _ y => y
  obtain ⟨z', H', I', rz, qz⟩ := hz
  exact SlX.cmpback rz ⟨z', H', I', rz, qz⟩
/-- x != y where the own == says that they are equal -/
structure NeP (K : PySem.W.Frag) (C : Addr) : Prop where
  ne : PySem.W.findIn K (.ref C) "__ne__" = some (some (.builtin "object.__ne__"))
  mro : PySem.W.mroIn K C (.type "object") = some true
def rNeP (C : Addr) (R : Addr → Addr → Hp → Prop) : R2 := fun x y H Q => DIns C R x y H ∧ ∀ H', Ext H H' → Q (.bl false) H'
theorem op_neG {CX : CXT} {C f : Addr} {fd : FuncData} {ps : List Str} {R : Addr → Addr → Hp → Prop} {E : XK} (F : FnOk X.prog X.w X.K X.mg X.base CX n f fd ps (spEq R)) (M : Meth X.K C "__eq__" f) (hb : Binds X.K fd ps []) (np : NeP X.K C)
    (hr : Room (n + 1) X.A) (hx : Passes CX X E) : OpR X (compareOp .NotEq) (rNeP C R) := by
  intro pins s σ H x y v u Q I rx ry h
  obtain ⟨⟨a, b, dx, dy, fs, gs, rfl, rfl, ha, hb', hR⟩, q⟩ := h
  cases rx
  cases ry
  obtain ⟨mA, J, _⟩ := ins_get I.hok ha
  obtain ⟨mB, J', _⟩ := ins_get I.hok hb'
  obtain ⟨od, J, _⟩ := J.look
  obtain ⟨od', J', _⟩ := J'.look
  obtain ⟨m, hF⟩ := I.fr
  show wpAny (model X.prog X.w) X.A (richCompare .NotEq (.ref a) (.ref b)) (EP X pins σ Q) X.xe s
  have hr1 : Room n X.A.in1 := hr.in1
  refine OwN.ne_K hr.units0 hr1.units0 hF I.ok.mod.kin J J' np.mro np.ne M.at_ M.fn ?_
  have hsp : spEq R [.ref a, .ref b] H (fun v H' => v = .bl true ∧ Ext H H') E := ⟨a, b, rfl, hR, fun H' e => ⟨rfl, e⟩⟩
  have r2 : Vals [V.ref a, V.ref b] [Value.ref a, Value.ref b] := .cons rfl (.cons rfl .nil)
  refine wpAny_call (codeAny_mono (F.raw hb .nil X.A.in1 X.stack s H [.ref a, .ref b] [.ref a, .ref b] _ E hr1 I.env0.in1 r2 (by exact hsp)) fun r s' hq => ?_)
  cases r with
  | error e => exact hx pins σ H s e s' I hq
  | ok fl =>
    cases fl with
    | ret u =>
      obtain ⟨z, H', I', rz, ez, ex⟩ := I.after hq
      subst ez
      cases rz
      exact ⟨rfl, .bl false, H', I', rfl, q H' ex⟩
    | next => exact False.elim hq
    | brk => exact False.elim hq
    | cont => exact False.elim hq
end
end L2

set_option Elab.async false
set_option linter.all false
set_option pp.deepTerms false
set_option pp.maxSteps 3000
set_option maxRecDepth 100000
set_option maxHeartbeats 8000000
set_option exponentiation.threshold 3000
namespace Gr
open PySem PySem.Spec PyProof.Rows L2
open Pm (Rn)
/-! ### the operators of passages -/
def spChkP (C : Addr) : Sp := fun vs H Q _ => ∃ (p dx : Addr) (fs : List (Str × V)), vs = [.ref p] ∧ H p = some (.ins C dx fs) ∧ Q .non H
def spCheckPair (C : Addr) : Sp := fun vs H Q _ => ∃ (p p' : Addr) (c M M' : Int) (Z Z' : List Rn), vs = [.ref p, .ref p'] ∧ PasAt C H p c M Z ∧ PasAt C H p' c M' Z' ∧ Q .non H
/-- what an operator makes: the arrivals, how many runs at most -/
def spOp (C : Addr) (op : (Int → Int) → (Int → Int) → Int → Int) (most : Nat → Nat → Nat) (ok : Nat → Nat → Prop) : Sp := fun vs H Q _ => ∃ (p p' : Addr) (c M M' : Int) (Z Z' : List Rn), vs = [.ref p, .ref p'] ∧ PasAt C H p c M Z ∧ PasAt C H p' c M' Z' ∧ ok Z.length Z'.length ∧ M ≤ 10 ^ 190 ∧ M' ≤ 10 ^ 190 ∧
  ∀ x H' Zl, Same H H' → PasAt C H' x c (2 * (M + M' + 10 * c) + c) Zl → (∀ t, Pm.F c Zl t = op (Pm.F c Z) (Pm.F c Z') t) → Zl.length ≤ most Z.length Z'.length → Q (.ref x) H'
def okPut (n m : Nat) : Prop := n + m ≤ 1900
def mostPut (n m : Nat) : Nat := 4 * (n + m) + 2
def okAdd (n m : Nat) : Prop := n ≤ 40000 ∧ m ≤ 40000 ∧ n * (m + 2) ≤ 50000
def mostAdd (n m : Nat) : Nat := n * (m + 2)
def opAdd (A B : Int → Int) (x : Int) : Int := B (A x)
def opOr (A B : Int → Int) (x : Int) : Int := Pm.mn (A x) (B x)
def opAnd (A B : Int → Int) (x : Int) : Int := Pm.mx (A x) (B x)
theorem ba_pos {c M : Int} {Z : List Rn} (ok : Pm.Ok c Z) (ba : BA M Z) : 0 ≤ M := by
  obtain ⟨r, hr⟩ := List.exists_mem_of_ne_nil _ ok.ne
  have := ba r hr
  omega
theorem rows_br {c M : Int} {H : Int → Int} {X : List Rn} (h : Pm.RowsOf c H X) (c2 : 2 * c ≤ M) (b : ∀ x, 0 ≤ x → x ≤ 2 * c → -M ≤ H x ∧ H x ≤ M) : BR M X := by
  obtain ⟨e, he, hr, _⟩ := h.ex
  intro r m
  have a := hr r m
  have q := h.at' r m r.1 (by omega) a.2.1
  have := b r.1 (by omega) (by omega)
  omega
section
variable {P : Program} {w : World} {K : PySem.W.Frag} {mg : Str → Option Value} {base : Heap} {tC : Tok}
theorem ok_chkP {C fI fC f : Addr} {fd : FuncData} (B : Blt mg tC) (TP : TxtP K mg C fI fC) (IP : IsP K C) (Dcheck_passage : Def K mg "check_passage" s_check_passage ["passage"] f fd) : FnOk P w K mg base CX0 1 f fd ["passage"] (spChkP C) := by
  refine Dcheck_passage.F.ok sccheck_passage (fun vs H Q E h => ?_) (fun cdv A outer s H vs Q E hr h => ⟨_, (pss_one (ps_if (pt_not (pt_val (pe_callB call_isi (by rfl) B.n_isinstance (by decide +kernel) (pa_cons (pv 0) (pa_cons (pe_glob (v := .ref C) (by rfl) TP.mgC rfl) pa_nil)))))
   (pss_one ps_never)
   pss_nil)), ?_⟩)
  · obtain ⟨p, dx, fs, rfl, _⟩ := h; rfl
  · obtain ⟨p, dx, fs, rfl, hp, q⟩ := h
    refine ⟨_, rfl, _, _, _, _, _, rfl, .own C, .base (.ins hp TP.cl IP.ha IP.hn IP.htk IP.hm), IP.one, _, rfl, ?_⟩
    exact iteF q
theorem ok_pair {C fI fC f f1 : Addr} {fd fd1 : FuncData} (B : Blt mg tC) (TP : TxtP K mg C fI fC) (IP : IsP K C) (Dcheck_pair : Def K mg "check_pair" s_check_pair ["one", "other"] f fd) (Dcheck_passage : Def K mg "check_passage" s_check_passage ["passage"] f1 fd1) : FnOk P w K mg base CX0 2 f fd ["one", "other"] (spCheckPair C) := by
  have Gcheck_passage := ok_chkP (P := P) (w := w) (base := base) B TP IP Dcheck_passage
  refine Dcheck_pair.F.ok sccheck_pair (fun vs H Q E h => ?_) (fun cdv A outer s H vs Q E hr h => ⟨_, (pss_cons (ps_expr (pe_call Gcheck_passage (hr.mono (by decide)) (by rfl) Dcheck_passage.g Dcheck_passage.F.kp Dcheck_passage.b .nil pass0 (pa_cons (pv 0) pa_nil)))
  (pss_cons (ps_expr (pe_call Gcheck_passage (hr.mono (by decide)) (by rfl) Dcheck_passage.g Dcheck_passage.F.kp Dcheck_passage.b .nil pass0 (pa_cons (pv 1) pa_nil)))
  (pss_one (ps_if (pt_cmpR op_ne (pe_fld (pv 0) rfl) (pe_fld (pv 1) rfl) (nomark _))
   (pss_one ps_never)
   pss_nil)))), ?_⟩)
  · obtain ⟨p, p', c, M, M', Z, Z', rfl, _⟩ := h; rfl
  · obtain ⟨p, p', c, M, M', Z, Z', rfl, h1, h2, q⟩ := h
    obtain ⟨dx, a, hp, hS⟩ := h1.ob
    obtain ⟨dx', a', hp', hS'⟩ := h2.ob
    refine ⟨_, rfl, p, dx, _, rfl, hp, ?_⟩
    refine ⟨_, rfl, p', dx', _, rfl, hp', ?_⟩
    refine ⟨_, rfl, p, C, dx, _, _, rfl, hp, TP.cl, TP.nC, fldP_cycle _ _, _, rfl, p', C, dx', _, _, rfl, hp', TP.cl, TP.nC, fldP_cycle _ _, ?_⟩
    exact ⟨rfl, false, by rw [decide_eq_true rfl]; rfl, q⟩
theorem ok_addP {C fI fC f f1 f2 f3 f4 f5 f6 f7 f8 f9 : Addr} {fdI fd fd1 fd2 fd3 fd4 fd5 fd6 fd7 fd8 fd9 : FuncData} (B : Blt mg tC) (TP : TxtP K mg C fI fC) (IP : IsP K C) (DP_add : DefM K "__add__" "Passage.__add__" s_P_add ["self", "other"] f fd) (Dcheck_pair : Def K mg "check_pair" s_check_pair ["one", "other"] f1 fd1) (Dcheck_passage : Def K mg "check_passage" s_check_passage ["passage"] f2 fd2) (Dbehind_runs : Def K mg "behind_runs" s_behind_runs ["cycle", "runs", "others"] f3 fd3) (Dmoved : Def K mg "moved" s_moved ["run", "ticks"] f4 fd4) (Dlast_arrival : Def K mg "last_arrival" s_last_arrival ["run"] f5 fd5) (Druns_within : Def K mg "runs_within" s_runs_within ["cycle", "runs", "low", "high"] f6 fd6) (Darrival_at : Def K mg "arrival_at" s_arrival_at ["cycle", "runs", "start"] f7 fd7) (Dplace_of : Def K mg "place_of" s_place_of ["cycle", "runs", "start"] f8 fd8) (Darrival_by_run : Def K mg "arrival_by_run" s_arrival_by_run ["run", "start"] f9 fd9) (DP_init : DefM K "__init__" "Passage.__init__" s_P_init ["self", "cycle", "runs"] fI fdI)
    (GP_init : FnOk P w K mg base CX0 4 fI fdI ["self", "cycle", "runs"] (spInitP C)) : FnOk P w K mg base CX0 6 f fd ["self", "other"] (spOp C opAdd mostAdd okAdd) := by
  have Gcheck_pair := ok_pair (P := P) (w := w) (base := base) B TP IP Dcheck_pair Dcheck_passage
  have Gbehind_runs := ok_behind (P := P) (w := w) (base := base) B Dbehind_runs Dmoved Dlast_arrival Druns_within Darrival_at Dplace_of Darrival_by_run
  refine DP_add.F.ok scP_add (fun vs H Q E h => ?_) (fun cdv A outer s H vs Q E hr h => ⟨_, (pss_cons (ps_expr (pe_call Gcheck_pair (hr.mono (by decide)) (by rfl) Dcheck_pair.g Dcheck_pair.F.kp Dcheck_pair.b .nil pass0 (pa_cons (pv 0) (pa_cons (pv 1) pa_nil))))
  (pss_one (ps_ret (pe_make TP.mks GP_init (hr.mono (by decide)) (by rfl) TP.mgC DP_init.b .nil pass0 (pa_cons (pe_fld (pv 0) rfl) (pa_cons (pe_call Gbehind_runs (hr.mono (by decide)) (by rfl) Dbehind_runs.g Dbehind_runs.F.kp Dbehind_runs.b .nil pass0 (pa_cons (pe_fld (pv 0) rfl) (pa_cons (pe_fld (pv 0) rfl) (pa_cons (pe_fld (pv 1) rfl) pa_nil)))) pa_nil)))))), ?_⟩)
  · obtain ⟨p, p', c, M, M', Z, Z', rfl, _⟩ := h; rfl
  · obtain ⟨p, p', c, M, M', Z, Z', rfl, h1, h2, hok, m1, m2, q⟩ := h
    obtain ⟨dx, a, hp, hS⟩ := h1.ob
    obtain ⟨dx', a', hp', hS'⟩ := h2.ob
    have mm := h1.can.1.mono
    have mm' := h2.can.1.mono
    have p1 := ba_pos h1.can.1 h1.ba
    have p2 := ba_pos h2.can.1 h2.ba
    have c1 := mm.c1
    have e30 := h1.le
    have e190 : 2 * (10 : Int) ^ 190 + 10 * 10 ^ 30 ≤ 10 ^ 200 := by decide +kernel
    refine ⟨_, rfl, _, rfl, p, p', c, M, M', Z, Z', rfl, h1, h2, ?_⟩
    refine ⟨_, rfl, p, C, dx, _, _, rfl, hp, TP.cl, TP.nC, fldP_cycle _ _, _, rfl, p, C, dx, _, _, rfl, hp, TP.cl, TP.nC, fldP_cycle _ _, _, rfl, p, C, dx, _, _, rfl, hp, TP.cl, TP.nR, fldP_runs _ _, _, rfl, p', C, dx', _, _, rfl, hp', TP.cl, TP.nR, fldP_runs _ _, ?_⟩
    refine ⟨c, a, a', Z, Z', rfl, hS, hS', h1.can, h2.can, e30, fun r hr => by have := h1.ba r hr; omega, hok.2.1, hok.1, hok.2.2, fun T H1 X s1 nT hT rows lX => ?_⟩
    have mH := mm.comp mm'
    intro x dx2 hx hdx nx
    have sM := same_make (C := C) hx hdx
    refine ⟨x, dx2, T, c, M + M' + 10 * c, X, rfl, upd_same, hT.mono sM, rows.ok mH, e30, Nat.le_trans lX hok.2.2, rows_br rows (by omega) (fun y y0 y1 => ?_), by omega, fun H2 Zl kp hPas hGr lz => ⟨rfl, q x _ Zl (made hx (s1.trans sM) s1 kp) hPas (fun t => ?_) (Nat.le_trans lz lX)⟩⟩
    · have b1 := F_bound (x := y) h1.can h1.ba
      have b2 := F_bound (x := Pm.F c Z y) h2.can h2.ba
      omega
    · refine Eq.trans ?_ (rows.F_eq mH t)
      show Pm.FG (Pm.G c Zl) t = Pm.FG (Pm.G c X) t
      rw [F_same hGr]
theorem ok_orP {C fI fC f f1 f2 f3 f4 f5 f6 f7 f8 f9 : Addr} {fdI fd fd1 fd2 fd3 fd4 fd5 fd6 fd7 fd8 fd9 : FuncData} (B : Blt mg tC) (TP : TxtP K mg C fI fC) (IP : IsP K C) (DP_or : DefM K "__or__" "Passage.__or__" s_P_or ["self", "other"] f fd) (Dcheck_pair : Def K mg "check_pair" s_check_pair ["one", "other"] f1 fd1) (Dcheck_passage : Def K mg "check_passage" s_check_passage ["passage"] f2 fd2) (Dsooner_runs : Def K mg "sooner_runs" s_sooner_runs ["cycle", "runs", "others"] f3 fd3) (Dstretches : Def K mg "stretches" s_stretches ["cycle", "runs", "others"] f4 fd4) (Druns_of_parts : Def K mg "runs_of_parts" s_runs_of_parts ["cycle", "parts"] f5 fd5) (Darrivals_at : Def K mg "arrivals_at" s_arrivals_at ["cycle", "runs", "starts"] f6 fd6) (Dparted : Def K mg "parted" s_parted ["stretch"] f7 fd7) (Dmoved : Def K mg "moved" s_moved ["run", "ticks"] f8 fd8) (Darrival_by_run : Def K mg "arrival_by_run" s_arrival_by_run ["run", "start"] f9 fd9) (DP_init : DefM K "__init__" "Passage.__init__" s_P_init ["self", "cycle", "runs"] fI fdI)
    (GP_init : FnOk P w K mg base CX0 4 fI fdI ["self", "cycle", "runs"] (spInitP C)) : FnOk P w K mg base CX0 6 f fd ["self", "other"] (spOp C opOr mostPut okPut) := by
  have Gcheck_pair := ok_pair (P := P) (w := w) (base := base) B TP IP Dcheck_pair Dcheck_passage
  have Gsooner_runs := ok_sooner (P := P) (w := w) (base := base) B Dsooner_runs Dstretches Druns_of_parts Darrivals_at Dparted Dmoved Darrival_by_run
  refine DP_or.F.ok scP_or (fun vs H Q E h => ?_) (fun cdv A outer s H vs Q E hr h => ⟨_, (pss_cons (ps_expr (pe_call Gcheck_pair (hr.mono (by decide)) (by rfl) Dcheck_pair.g Dcheck_pair.F.kp Dcheck_pair.b .nil pass0 (pa_cons (pv 0) (pa_cons (pv 1) pa_nil))))
  (pss_one (ps_ret (pe_make TP.mks GP_init (hr.mono (by decide)) (by rfl) TP.mgC DP_init.b .nil pass0 (pa_cons (pe_fld (pv 0) rfl) (pa_cons (pe_call Gsooner_runs (hr.mono (by decide)) (by rfl) Dsooner_runs.g Dsooner_runs.F.kp Dsooner_runs.b .nil pass0 (pa_cons (pe_fld (pv 0) rfl) (pa_cons (pe_fld (pv 0) rfl) (pa_cons (pe_fld (pv 1) rfl) pa_nil)))) pa_nil)))))), ?_⟩)
  · obtain ⟨p, p', c, M, M', Z, Z', rfl, _⟩ := h; rfl
  · obtain ⟨p, p', c, M, M', Z, Z', rfl, h1, h2, hok, m1, m2, q⟩ := h
    obtain ⟨dx, a, hp, hS⟩ := h1.ob
    obtain ⟨dx', a', hp', hS'⟩ := h2.ob
    have mm := h1.can.1.mono
    have mm' := h2.can.1.mono
    have p1 := ba_pos h1.can.1 h1.ba
    have p2 := ba_pos h2.can.1 h2.ba
    have c1 := mm.c1
    have e30 := h1.le
    have e190 : 2 * (10 : Int) ^ 190 + 10 * 10 ^ 30 ≤ 10 ^ 200 := by decide +kernel
    refine ⟨_, rfl, _, rfl, p, p', c, M, M', Z, Z', rfl, h1, h2, ?_⟩
    refine ⟨_, rfl, p, C, dx, _, _, rfl, hp, TP.cl, TP.nC, fldP_cycle _ _, _, rfl, p, C, dx, _, _, rfl, hp, TP.cl, TP.nC, fldP_cycle _ _, _, rfl, p, C, dx, _, _, rfl, hp, TP.cl, TP.nR, fldP_runs _ _, _, rfl, p', C, dx', _, _, rfl, hp', TP.cl, TP.nR, fldP_runs _ _, ?_⟩
    refine ⟨c, a, a', Z, Z', rfl, hS, hS', h1.can, h2.can, e30, hok, fun T H1 X s1 nT hT rows lX => ?_⟩
    have mH := Pm.Mono.mn mm mm'
    intro x dx2 hx hdx nx
    have sM := same_make (C := C) hx hdx
    have hok' : Z.length + Z'.length ≤ 1900 := hok
    refine ⟨x, dx2, T, c, M + M' + 10 * c, X, rfl, upd_same, hT.mono sM, rows.ok mH, e30, by omega, rows_br rows (by omega) (fun y y0 y1 => ?_), by omega, fun H2 Zl kp hPas hGr lz => ⟨rfl, q x _ Zl (made hx (s1.trans sM) s1 kp) hPas (fun t => ?_) (Nat.le_trans lz lX)⟩⟩
    · have b1 := F_bound (x := y) h1.can h1.ba
      have b2 := F_bound (x := y) h2.can h2.ba
      first | unfold Pm.mn | unfold Pm.mx
      split <;> omega
    · refine Eq.trans ?_ (rows.F_eq mH t)
      show Pm.FG (Pm.G c Zl) t = Pm.FG (Pm.G c X) t
      rw [F_same hGr]
theorem ok_andP {C fI fC f f1 f2 f3 f4 f5 f6 f7 f8 f9 : Addr} {fdI fd fd1 fd2 fd3 fd4 fd5 fd6 fd7 fd8 fd9 : FuncData} (B : Blt mg tC) (TP : TxtP K mg C fI fC) (IP : IsP K C) (DP_and : DefM K "__and__" "Passage.__and__" s_P_and ["self", "other"] f fd) (Dcheck_pair : Def K mg "check_pair" s_check_pair ["one", "other"] f1 fd1) (Dcheck_passage : Def K mg "check_passage" s_check_passage ["passage"] f2 fd2) (Dboth_runs : Def K mg "both_runs" s_both_runs ["cycle", "runs", "others"] f3 fd3) (Dstretches : Def K mg "stretches" s_stretches ["cycle", "runs", "others"] f4 fd4) (Druns_of_parts : Def K mg "runs_of_parts" s_runs_of_parts ["cycle", "parts"] f5 fd5) (Darrivals_at : Def K mg "arrivals_at" s_arrivals_at ["cycle", "runs", "starts"] f6 fd6) (Dparted : Def K mg "parted" s_parted ["stretch"] f7 fd7) (Dmoved : Def K mg "moved" s_moved ["run", "ticks"] f8 fd8) (Darrival_by_run : Def K mg "arrival_by_run" s_arrival_by_run ["run", "start"] f9 fd9) (DP_init : DefM K "__init__" "Passage.__init__" s_P_init ["self", "cycle", "runs"] fI fdI)
    (GP_init : FnOk P w K mg base CX0 4 fI fdI ["self", "cycle", "runs"] (spInitP C)) : FnOk P w K mg base CX0 6 f fd ["self", "other"] (spOp C opAnd mostPut okPut) := by
  have Gcheck_pair := ok_pair (P := P) (w := w) (base := base) B TP IP Dcheck_pair Dcheck_passage
  have Gboth_runs := ok_both (P := P) (w := w) (base := base) B Dboth_runs Dstretches Druns_of_parts Darrivals_at Dparted Dmoved Darrival_by_run
  refine DP_and.F.ok scP_and (fun vs H Q E h => ?_) (fun cdv A outer s H vs Q E hr h => ⟨_, (pss_cons (ps_expr (pe_call Gcheck_pair (hr.mono (by decide)) (by rfl) Dcheck_pair.g Dcheck_pair.F.kp Dcheck_pair.b .nil pass0 (pa_cons (pv 0) (pa_cons (pv 1) pa_nil))))
  (pss_one (ps_ret (pe_make TP.mks GP_init (hr.mono (by decide)) (by rfl) TP.mgC DP_init.b .nil pass0 (pa_cons (pe_fld (pv 0) rfl) (pa_cons (pe_call Gboth_runs (hr.mono (by decide)) (by rfl) Dboth_runs.g Dboth_runs.F.kp Dboth_runs.b .nil pass0 (pa_cons (pe_fld (pv 0) rfl) (pa_cons (pe_fld (pv 0) rfl) (pa_cons (pe_fld (pv 1) rfl) pa_nil)))) pa_nil)))))), ?_⟩)
  · obtain ⟨p, p', c, M, M', Z, Z', rfl, _⟩ := h; rfl
  · obtain ⟨p, p', c, M, M', Z, Z', rfl, h1, h2, hok, m1, m2, q⟩ := h
    obtain ⟨dx, a, hp, hS⟩ := h1.ob
    obtain ⟨dx', a', hp', hS'⟩ := h2.ob
    have mm := h1.can.1.mono
    have mm' := h2.can.1.mono
    have p1 := ba_pos h1.can.1 h1.ba
    have p2 := ba_pos h2.can.1 h2.ba
    have c1 := mm.c1
    have e30 := h1.le
    have e190 : 2 * (10 : Int) ^ 190 + 10 * 10 ^ 30 ≤ 10 ^ 200 := by decide +kernel
    refine ⟨_, rfl, _, rfl, p, p', c, M, M', Z, Z', rfl, h1, h2, ?_⟩
    refine ⟨_, rfl, p, C, dx, _, _, rfl, hp, TP.cl, TP.nC, fldP_cycle _ _, _, rfl, p, C, dx, _, _, rfl, hp, TP.cl, TP.nC, fldP_cycle _ _, _, rfl, p, C, dx, _, _, rfl, hp, TP.cl, TP.nR, fldP_runs _ _, _, rfl, p', C, dx', _, _, rfl, hp', TP.cl, TP.nR, fldP_runs _ _, ?_⟩
    refine ⟨c, a, a', Z, Z', rfl, hS, hS', h1.can, h2.can, e30, hok, fun T H1 X s1 nT hT rows lX => ?_⟩
    have mH := Pm.Mono.mx mm mm'
    intro x dx2 hx hdx nx
    have sM := same_make (C := C) hx hdx
    have hok' : Z.length + Z'.length ≤ 1900 := hok
    refine ⟨x, dx2, T, c, M + M' + 10 * c, X, rfl, upd_same, hT.mono sM, rows.ok mH, e30, by omega, rows_br rows (by omega) (fun y y0 y1 => ?_), by omega, fun H2 Zl kp hPas hGr lz => ⟨rfl, q x _ Zl (made hx (s1.trans sM) s1 kp) hPas (fun t => ?_) (Nat.le_trans lz lX)⟩⟩
    · have b1 := F_bound (x := y) h1.can h1.ba
      have b2 := F_bound (x := y) h2.can h2.ba
      first | unfold Pm.mn | unfold Pm.mx
      split <;> omega
    · refine Eq.trans ?_ (rows.F_eq mH t)
      show Pm.FG (Pm.G c Zl) t = Pm.FG (Pm.G c X) t
      rw [F_same hGr]
end
end Gr

set_option Elab.async false
set_option linter.all false
set_option pp.deepTerms false
set_option pp.maxSteps 3000
set_option maxRecDepth 100000
set_option maxHeartbeats 8000000
set_option exponentiation.threshold 3000
namespace Gr
open PySem PySem.Spec PyProof.Rows L2
open Pm (Rn)
/-! ### the latest starts of what is put together -/
def spPas (C : Addr) : Sp := fun vs H Q _ => ∃ (p : Addr) (n c m : Int), vs = [.ref p, .int c, .int m] ∧ Pond n p H ∧ n ≤ 10 ^ 6 ∧ 1 ≤ c ∧ c ≤ 10 ^ 30 ∧ 1 ≤ m ∧ m ≤ 1000 ∧
  ∀ (x : Addr) (H' : Hp) (Z : List Rn), But p H H' → Pond (n + 20010) p H' → PasAt C H' x c (2 * 10 ^ 42 + c) Z → (Z.length : Int) ≤ m → Q (.ref x) H'
theorem PasAt.but {C q : Addr} {H H' : Hp} {p : Addr} {c M : Int} {Z : List Rn} {u : List V} (b : But q H H') (hq : H q = some (.lst u)) (h : PasAt C H p c M Z) : PasAt C H' p c M Z := by
  obtain ⟨dx, a, h1, xs, h2, h3⟩ := h.ob
  refine ⟨⟨dx, a, b _ _ (ne_of h1 hq (fun z => nomatch z)) h1, xs, b _ _ (ne_of h2 hq (fun z => nomatch z)) h2, L2.Paired.mapP h3 fun _ _ ⟨b', e', h'⟩ => ⟨b', e', b _ _ (ne_of h' hq (fun z => nomatch z)) h'⟩⟩, h.can, h.le, h.len, h.ba⟩
theorem F_G {c : Int} {A B : List Rn} (ok : Pm.Ok c A) (ok' : Pm.Ok c B) (h : ∀ t, Pm.F c A t = Pm.F c B t) {z y : Int} (g : Pm.G c A z y) : Pm.G c B z y := by
  have e := F_last ok g
  have gr := (F_grows ok z).mp ⟨y, g⟩
  rw [h, h] at gr
  obtain ⟨w, hw⟩ := (F_grows ok' z).mpr gr
  have e' := F_last ok' hw
  rw [← e, h, e']
  exact hw
theorem can_eq {c : Int} {A B : List Rn} (hA : Pm.Can c A) (hB : Pm.Can c B) (h : ∀ t, Pm.F c A t = Pm.F c B t) : A = B :=
  hA.uniq hB fun z y => ⟨F_G hA.1 hB.1 h, F_G hB.1 hA.1 fun t => (h t).symm⟩
theorem lat_add {c : Int} {X A B : List Rn} (okX : Pm.Ok c X) (okA : Pm.Ok c A) (okB : Pm.Ok c B) (h : ∀ t, Pm.F c X t = opAdd (Pm.F c A) (Pm.F c B) t) (t : Int) : Pm.F c (latL c X) t = opAdd (Pm.F c (latL c B)) (Pm.F c (latL c A)) t := by
  obtain ⟨b1, b2⟩ := lat_is okB t
  obtain ⟨a1, a2⟩ := lat_is okA (Pm.F c (latL c B) t)
  unfold opAdd at h ⊢
  refine lat_uniq okX ?_ ?_
  · rw [h]; exact Int.le_trans (F_mono okB a1) b1
  · rw [h]; exact Int.lt_of_lt_of_le b2 (F_mono okB (show Pm.F c (latL c B) t + 1 ≤ _ by omega))
theorem lat_or {c : Int} {X A B : List Rn} (okX : Pm.Ok c X) (okA : Pm.Ok c A) (okB : Pm.Ok c B) (h : ∀ t, Pm.F c X t = opOr (Pm.F c A) (Pm.F c B) t) (t : Int) : Pm.F c (latL c X) t = opAnd (Pm.F c (latL c A)) (Pm.F c (latL c B)) t := by
  obtain ⟨b1, b2⟩ := lat_is okB t
  obtain ⟨a1, a2⟩ := lat_is okA t
  unfold opOr at h
  unfold opAnd
  generalize Pm.F c (latL c A) t = x at a1 a2
  generalize Pm.F c (latL c B) t = y at b1 b2
  have e : (Pm.mx x y = x ∧ y ≤ x) ∨ (Pm.mx x y = y ∧ x ≤ y) := by unfold Pm.mx; split <;> omega
  rcases e with ⟨e, l⟩ | ⟨e, l⟩ <;> rw [e]
  · have := F_mono okB (show y + 1 ≤ x + 1 by omega)
    refine lat_uniq okX ?_ ?_ <;> rw [h] <;> unfold Pm.mn <;> split <;> omega
  · have := F_mono okA (show x + 1 ≤ y + 1 by omega)
    refine lat_uniq okX ?_ ?_ <;> rw [h] <;> unfold Pm.mn <;> split <;> omega
theorem lat_and {c : Int} {X A B : List Rn} (okX : Pm.Ok c X) (okA : Pm.Ok c A) (okB : Pm.Ok c B) (h : ∀ t, Pm.F c X t = opAnd (Pm.F c A) (Pm.F c B) t) (t : Int) : Pm.F c (latL c X) t = opOr (Pm.F c (latL c A)) (Pm.F c (latL c B)) t := by
  obtain ⟨b1, b2⟩ := lat_is okB t
  obtain ⟨a1, a2⟩ := lat_is okA t
  unfold opAnd at h
  unfold opOr
  generalize Pm.F c (latL c A) t = x at a1 a2
  generalize Pm.F c (latL c B) t = y at b1 b2
  have e : (Pm.mn x y = x ∧ x ≤ y) ∨ (Pm.mn x y = y ∧ y ≤ x) := by unfold Pm.mn; split <;> omega
  rcases e with ⟨e, l⟩ | ⟨e, l⟩ <;> rw [e]
  · have := F_mono okB (show x ≤ y by omega)
    refine lat_uniq okX ?_ ?_ <;> rw [h] <;> unfold Pm.mx <;> split <;> omega
  · have := F_mono okA (show y ≤ x by omega)
    refine lat_uniq okX ?_ ?_ <;> rw [h] <;> unfold Pm.mx <;> split <;> omega
theorem one_len {c t : Int} {Z : List Rn} (c1 : 1 ≤ c) (h : Pm.Can c Z) (g : ∀ z y, Pm.G c [(0, c - 1, t)] z y ↔ Pm.G c Z z y) : Z.length = 1 := by
  have : Pm.Can c [(0, c - 1, t)] := ⟨ok_one c1, .inl ⟨t, rfl⟩⟩
  rw [← this.uniq h g]; rfl
theorem PasAt.up {C : Addr} {H : Hp} {p : Addr} {c M M' : Int} {Z : List Rn} (h : PasAt C H p c M Z) (l : M ≤ M') : PasAt C H p c M' Z :=
  ⟨h.ob, h.can, h.le, h.len, fun r hr => by have := h.ba r hr; omega⟩
def spR64 (C : Addr) : Sp := fun vs H Q _ => ∃ (p : Addr) (n c m : Int), vs = [.ref p, .int c, .int m] ∧ Pond n p H ∧ n ≤ 8 * 10 ^ 5 ∧ 1 ≤ c ∧ c ≤ 10 ^ 30 ∧ 1 ≤ m ∧ m ≤ 60 ∧ ∀ H', But p H H' → Pond (n + 50000) p H' → Q (.bl true) H'
section
variable {P : Program} {w : World} {K : PySem.W.Frag} {mg : Str → Option Value} {base : Heap} {tC : Tok}
end
end Gr

set_option Elab.async false
set_option linter.all false
set_option pp.deepTerms false
set_option pp.maxSteps 3000
set_option maxRecDepth 100000
set_option maxHeartbeats 8000000
set_option exponentiation.threshold 3000
namespace Gr
open PySem PySem.Spec PyProof.Rows L2
open Pm (Rn)
/-! ### platoons and gaps, as the program lists them -/
/-- what isinstance asks of the class -/
def pltL (c : Int) (rs : List Rn) : List (List Int) := ((prs c rs).filter fun q => decide (q.1.2.1 + 1 < q.2.1)).map fun q => [q.1.2.1 + 1, q.2.1, q.2.2.2]
def gapL (c : Int) (rs : List Rn) : List (List Int) := ((prs c rs).filter fun q => decide (Pm.la q.1 + 1 < q.2.2.2)).map fun q => [Pm.la q.1 + 1, q.2.2.2 - 1]
def spRowsOf (C : Addr) (f : Int → List Rn → List (List Int)) : Sp := fun vs H Q _ => ∃ (p : Addr) (c M : Int) (Z : List Rn), vs = [.ref p] ∧ PasAt C H p c M Z ∧ Z.length ≤ 50000 ∧ M ≤ 10 ^ 200 ∧
  ∀ D ys zs H', Same H H' → H D = none → H' D = some (.lst ys) → Paired (RowAt H') ys zs → zs.Perm ((f c Z).map (homeL c)) → zs.Pairwise (fun a b => TsO.lexL b a = false) → Q (.ref D) H'
section
variable {P : Program} {w : World} {K : PySem.W.Frag} {mg : Str → Option Value} {base : Heap} {tC : Tok}
end
end Gr

set_option Elab.async false
set_option linter.all false
set_option pp.deepTerms false
set_option pp.maxSteps 3000
set_option maxRecDepth 100000
set_option maxHeartbeats 8000000
set_option exponentiation.threshold 3000
namespace Gr
open PySem PySem.Spec PyProof.Rows L2
open Pm (Rn)
/-! ### runs one behind the other: nothing lies between them -/
/-- a platoon: starts with one arrival, the last of them a last start, another one right ahead -/
def PlatS (g : Int → Int → Prop) (p q y : Int) : Prop := g q y ∧ p < q ∧ (∃ w, g (p - 1) w) ∧ ∀ z w, p ≤ z → z < q → ¬ g z w
theorem plat_of {c : Int} {rs : List Rn} (ok : Pm.Ok c rs) {q : Rn × Rn} (h : q ∈ prs c rs) (l : q.1.2.1 + 1 < q.2.1) : PlatS (Pm.G c rs) (q.1.2.1 + 1) q.2.1 q.2.2.2 := by
  obtain ⟨g1, g2, g3⟩ := prs_G ok h
  exact ⟨g2, l, ⟨_, by rw [show q.1.2.1 + 1 - 1 = q.1.2.1 by omega]; exact g1⟩, fun z w a b => g3 z w (by omega) b⟩
theorem plat_in {c : Int} {rs : List Rn} (ok : Pm.Ok c rs) {p q y : Int} (h : PlatS (Pm.G c rs) p q y) :
    ∃ x ∈ prs c rs, ∃ k : Int, x.1.2.1 + 1 + k * c = p ∧ x.2.1 + k * c = q ∧ x.2.2.2 + k * c = y ∧ x.1.2.1 + 1 < x.2.1 := by
  obtain ⟨⟨r, hr, k, r1, r2, e⟩, lt, ⟨w, s, hs, j, s1, s2, ew⟩, no⟩ := h
  have q0 : q = r.1 + k * c := by
    by_cases z : r.1 + k * c = q
    · exact z.symm
    · exact absurd ⟨r, hr, k, by omega, by omega, rfl⟩ (no (q - 1) (r.2.2 + (q - 1) - r.1) (by omega) (by omega))
  obtain ⟨b, hb⟩ := prs_snd (c := c) hr
  obtain ⟨g1, g2, g3⟩ := prs_G ok hb
  have go := prs_goes ok _ hb
  have lt2 : b.2.1 < r.1 := go.1
  have hc := prs_cons ok _ hb s hs (j - k)
  have e1 : (j - k) * c = j * c - k * c := Int.sub_mul ..
  have hc : s.2.1 + (j - k) * c ≤ b.2.1 ∨ r.1 ≤ s.1 + (j - k) * c := hc
  rw [e1] at hc
  have g1 : Pm.G c rs b.2.1 (Pm.la b) := g1
  have gk := Pm.G_move k g1
  have nb : ¬ p ≤ b.2.1 + k * c := fun z => no _ _ z (by omega) gk
  refine ⟨(b, r), hb, k, ?_, ?_, ?_, ?_⟩
  · show b.2.1 + 1 + k * c = p
    rcases hc with z | z <;> omega
  · show r.1 + k * c = q
    omega
  · show r.2.2 + k * c = y
    omega
  · show b.2.1 + 1 < r.1
    rcases hc with z | z <;> omega
end Gr

set_option Elab.async false
set_option linter.all false
set_option pp.deepTerms false
set_option pp.maxSteps 3000
set_option maxRecDepth 100000
set_option maxHeartbeats 8000000
set_option exponentiation.threshold 3000
namespace Gr
open PySem PySem.Spec PyProof.Rows L2
open Pm (Rn)
/-! ### sorted rows of a set: one list -/
theorem lexL_anti : ∀ xs ys : List Int, xs.length = ys.length → TsO.lexL xs ys = false → TsO.lexL ys xs = false → xs = ys
  | [], [], _, _, _ => rfl
  | x :: xs, y :: ys, l, h1, h2 => by
    unfold TsO.lexL at h1 h2
    rcases Int.lt_trichotomy x y with e | e | e
    · rw [if_neg (by omega), decide_eq_true e] at h1; cases h1
    · subst e
      simp at h1 h2 l
      rw [lexL_anti xs ys l h1 h2]
    · rw [if_neg (by omega), decide_eq_true e] at h2; cases h2
structure IsRows (d : Nat) (S : List Int → Prop) (zs : List (List Int)) : Prop where
  pw : zs.Pairwise fun a b => TsO.lexL b a = false
  nd : zs.Nodup
  mem : ∀ ns, ns ∈ zs ↔ S ns
  len : ∀ ns ∈ zs, ns.length = d
theorem rows_uniq {d : Nat} : ∀ {as bs : List (List Int)} {S : List Int → Prop}, IsRows d S as → IsRows d S bs → as = bs
  | [], [], _, _, _ => rfl
  | [], b :: bs, _, ha, hb => by have := (ha.mem b).mpr ((hb.mem b).mp List.mem_cons_self); cases this
  | a :: as, [], _, ha, hb => by have := (hb.mem a).mpr ((ha.mem a).mp List.mem_cons_self); cases this
  | a :: as, b :: bs, S, ha, hb => by
    have m1 := (hb.mem a).mpr ((ha.mem a).mp List.mem_cons_self)
    have m2 := (ha.mem b).mpr ((hb.mem b).mp List.mem_cons_self)
    have e : a = b := by
      rcases List.mem_cons.mp m1 with e | m1
      · exact e
      · rcases List.mem_cons.mp m2 with e | m2
        · exact e.symm
        · exact lexL_anti a b (by rw [ha.len a List.mem_cons_self, hb.len b List.mem_cons_self]) ((List.pairwise_cons.mp hb.pw).1 a m1) ((List.pairwise_cons.mp ha.pw).1 b m2)
    subst e
    have na := List.nodup_cons.mp ha.nd
    have nb := List.nodup_cons.mp hb.nd
    have t : as = bs := rows_uniq (S := fun ns => S ns ∧ ns ≠ a)
      ⟨(List.pairwise_cons.mp ha.pw).2, na.2, fun ns => ⟨fun h => ⟨(ha.mem ns).mp (List.mem_cons_of_mem _ h), fun e => na.1 (e ▸ h)⟩, fun h => by
        rcases List.mem_cons.mp ((ha.mem ns).mpr h.1) with e | m
        · exact absurd e h.2
        · exact m⟩, fun ns h => ha.len ns (List.mem_cons_of_mem _ h)⟩
      ⟨(List.pairwise_cons.mp hb.pw).2, nb.2, fun ns => ⟨fun h => ⟨(hb.mem ns).mp (List.mem_cons_of_mem _ h), fun e => nb.1 (e ▸ h)⟩, fun h => by
        rcases List.mem_cons.mp ((hb.mem ns).mpr h.1) with e | m
        · exact absurd e h.2
        · exact m⟩, fun ns h => hb.len ns (List.mem_cons_of_mem _ h)⟩
    rw [t]
/-- the platoons that begin in the first cycle -/
def PltSet (c : Int) (g : Int → Int → Prop) (ns : List Int) : Prop := ∃ p q y, ns = [p, q, y] ∧ PlatS g p q y ∧ 0 ≤ p ∧ p < c
theorem prs_nodup {c : Int} {rs : List Rn} (ok : Pm.Ok c rs) : (prs c rs).Pairwise fun a b => a.2 ≠ b.2 := by
  have e : (prs c rs).map Prod.snd = rs := by
    unfold prs
    rw [List.map_snd_zip]
    rw [List.length_cons, List.length_dropLast]
    have : rs.length ≠ 0 := fun e => ok.ne (List.length_eq_zero_iff.mp e)
    omega
  have nd : rs.Nodup := ok.pw.imp_of_mem fun {a b} ha _ h e => by
    have := h.1
    have := ok.fl a ha
    rw [e] at *
    omega
  rw [← e] at nd
  exact List.pairwise_map.mp nd
/-- two pairs a whole number of cycles apart are the same one -/
theorem prs_far {c : Int} {rs : List Rn} (ok : Pm.Ok c rs) {x y : Rn × Rn} (hx : x ∈ prs c rs) (hy : y ∈ prs c rs) {k : Int} (e : x.2.1 + k * c = y.2.1) : x.2 = y.2 := by
  obtain ⟨mx, _⟩ := prs_mem ok.ne x hx
  obtain ⟨my, _⟩ := prs_mem ok.ne y hy
  have fx := ok.fl _ mx
  have fy := ok.fl _ my
  rcases ok.tri2 mx my k 0 with ⟨h, _⟩ | h | h
  · exact h
  · have := h.1; simp only [Pm.mv1, Pm.mv2] at this; omega
  · have := h.1; simp only [Pm.mv1, Pm.mv2] at this; omega
theorem plat_move {c : Int} {rs : List Rn} {p q y : Int} (j : Int) (h : PlatS (Pm.G c rs) p q y) : PlatS (Pm.G c rs) (p + j * c) (q + j * c) (y + j * c) := by
  obtain ⟨h1, h2, ⟨w, h3⟩, h4⟩ := h
  refine ⟨Pm.G_move j h1, by omega, ⟨w + j * c, ?_⟩, fun z w a b g => ?_⟩
  · have := Pm.G_move j h3
    rwa [show p - 1 + j * c = p + j * c - 1 by omega] at this
  · have := Pm.G_move (-j) g
    rw [Int.neg_mul] at this
    exact h4 _ _ (by omega) (by omega) this
theorem plt_rows {c : Int} {rs : List Rn} (ok : Pm.Ok c rs) {zs : List (List Int)} (pm : zs.Perm ((pltL c rs).map (homeL c))) (pw : zs.Pairwise fun a b => TsO.lexL b a = false) : IsRows 3 (PltSet c (Pm.G c rs)) zs := by
  have c1 := ok.c1
  have hm : ∀ ns, ns ∈ zs ↔ ∃ x ∈ prs c rs, x.1.2.1 + 1 < x.2.1 ∧ ns = homeL c [x.1.2.1 + 1, x.2.1, x.2.2.2] := fun ns => by
    rw [pm.mem_iff]
    unfold pltL
    simp only [List.mem_map, List.mem_filter, decide_eq_true_eq]
    constructor
    · rintro ⟨_, ⟨x, ⟨hx, l⟩, rfl⟩, rfl⟩; exact ⟨x, hx, l, rfl⟩
    · rintro ⟨x, hx, l, rfl⟩; exact ⟨_, ⟨x, ⟨hx, l⟩, rfl⟩, rfl⟩
  refine ⟨pw, ?_, fun ns => ?_, fun ns h => ?_⟩
  · rw [pm.nodup_iff]
    unfold pltL
    rw [List.map_map]
    unfold List.Nodup
    rw [List.pairwise_map]
    refine List.Pairwise.imp_of_mem ?_ (List.Pairwise.sublist List.filter_sublist (prs_nodup ok))
    intro x y hx hy ne e
    have hx := (List.mem_filter.mp hx).1
    have hy := (List.mem_filter.mp hy).1
    have e2 : x.2.1 + -((x.1.2.1 + 1) / c * c) = y.2.1 + -((y.1.2.1 + 1) / c * c) := (List.cons.inj (List.cons.inj e).2).1
    refine ne (prs_far ok hx hy (k := (y.1.2.1 + 1) / c - (x.1.2.1 + 1) / c) ?_)
    rw [Int.sub_mul]; omega
  · rw [hm]
    constructor
    · rintro ⟨x, hx, l, rfl⟩
      have e := Int.emod_add_mul_ediv (x.1.2.1 + 1) c
      have r0 := Int.emod_nonneg (x.1.2.1 + 1) (show c ≠ 0 by omega)
      have r1 := Int.emod_lt_of_pos (x.1.2.1 + 1) (show 0 < c by omega)
      rw [Int.mul_comm] at e
      refine ⟨_, _, _, rfl, ?_, ?_, ?_⟩
      · have h := plat_move (-((x.1.2.1 + 1) / c)) (plat_of ok hx l)
        rw [Int.neg_mul] at h
        exact h
      · show 0 ≤ x.1.2.1 + 1 + -((x.1.2.1 + 1) / c * c); omega
      · show x.1.2.1 + 1 + -((x.1.2.1 + 1) / c * c) < c; omega
    · rintro ⟨p, q, y, rfl, h, p0, p1⟩
      obtain ⟨x, hx, k, e1, e2, e3, l⟩ := plat_in ok h
      refine ⟨x, hx, l, ?_⟩
      have e : (x.1.2.1 + 1) / c * c = -(k * c) := by
        have : x.1.2.1 + 1 = p + -k * c := by rw [Int.neg_mul]; omega
        rw [this, Int.add_mul_ediv_right _ _ (by omega), Int.ediv_eq_zero_of_lt p0 p1, Int.zero_add, Int.neg_mul]
      show [p, q, y] = [x.1.2.1 + 1 + -((x.1.2.1 + 1) / c * c), x.2.1 + -((x.1.2.1 + 1) / c * c), x.2.2.2 + -((x.1.2.1 + 1) / c * c)]
      rw [e, ← e1, ← e2, ← e3, Int.neg_neg]
  · obtain ⟨x, hx, l, rfl⟩ := (hm ns).mp h
    rfl
end Gr

set_option Elab.async false
set_option linter.all false
set_option pp.deepTerms false
set_option pp.maxSteps 3000
set_option maxRecDepth 100000
set_option maxHeartbeats 8000000
set_option exponentiation.threshold 3000
namespace Gr
open PySem PySem.Spec PyProof.Rows L2
open Pm (Rn)
/-! ### gaps -/
theorem prs_consA {c : Int} {rs : List Rn} (ok : Pm.Ok c rs) : ∀ q ∈ prs c rs, ∀ s ∈ rs, ∀ k : Int, Pm.la s + k * c ≤ Pm.la q.1 ∨ q.2.2.2 ≤ s.2.2 + k * c := by
  rintro ⟨b, r⟩ hq s hs k
  obtain ⟨pre, l, rfl⟩ : ∃ pre l, rs = pre ++ [l] := by
    rcases List.eq_nil_or_concat rs with e | ⟨pre, l, e⟩
    · exact absurd e ok.ne
    · exact ⟨pre, l, by rw [e, List.concat_eq_append]⟩
  unfold prs at hq
  rw [getLastD_snoc, dropLast_snoc] at hq
  obtain ⟨j, hj⟩ := List.mem_iff_getElem?.mp hq
  obtain ⟨j1, j2⟩ := List.getElem?_zip_eq_some.mp hj
  have h1 : (Pm.mv (-c) l :: pre)[j]? = some b := j1
  have h2 : (pre ++ [l])[j]? = some r := j2
  clear j1 j2
  show Pm.la s + k * c ≤ Pm.la b ∨ r.2.2 ≤ s.2.2 + k * c
  obtain ⟨i, hi⟩ := List.mem_iff_getElem?.mp hs
  have hr := List.mem_of_getElem? h2
  have fr : r.2.2 ≤ Pm.la r := by have := ok.fl r hr; unfold Pm.la; omega
  have fs : s.2.2 ≤ Pm.la s := by have := ok.fl s hs; unfold Pm.la; omega
  have ml : l ∈ pre ++ [l] := by simp
  have fl : l.2.2 ≤ Pm.la l := by have := ok.fl l ml; unfold Pm.la; omega
  have gl : (pre ++ [l])[pre.length]? = some l := by rw [List.getElem?_append_right (Nat.le_refl _), Nat.sub_self]; rfl
  cases j with
  | zero =>
    cases h1
    rw [Pm.la_mv]
    show Pm.la s + k * c ≤ Pm.la l + -c ∨ r.2.2 ≤ s.2.2 + k * c
    rcases Int.lt_trichotomy k 0 with k0 | k0 | k0
    · left
      by_cases k1 : k = -1
      · subst k1
        have : Pm.la s ≤ Pm.la l := by
          have hl : i < (pre ++ [l]).length := (List.getElem?_eq_some_iff.mp hi).1
          rw [List.length_append, List.length_singleton] at hl
          by_cases e : i = pre.length
          · subst e; rw [gl] at hi; cases hi; exact Int.le_refl _
          · have := (pw_get ok.pw hi gl (by omega)).2; omega
        omega
      · have := (ok.later hs ml (show k < -1 by omega)).2
        simp only [Pm.mv3, Pm.la_mv] at this
        omega
    · right
      subst k0
      by_cases e : i = 0
      · subst e; rw [h2] at hi; cases hi; omega
      · have := (pw_get ok.pw h2 hi (by omega)).2; omega
    · right
      have := (ok.later hr hs k0).2
      simp only [Pm.mv3, Pm.la_mv] at this
      omega
  | succ j =>
    have hb : (pre ++ [l])[j]? = some b := by
      have := (List.getElem?_eq_some_iff.mp h1).1
      rw [List.getElem?_cons_succ] at h1
      rw [List.getElem?_append_left (List.getElem?_eq_some_iff.mp h1).1]; exact h1
    have mb := List.mem_of_getElem? hb
    have fb : b.2.2 ≤ Pm.la b := by have := ok.fl b mb; unfold Pm.la; omega
    rcases Int.lt_trichotomy k 0 with k0 | k0 | k0
    · left
      have := (ok.later hs mb k0).2
      simp only [Pm.mv3, Pm.la_mv] at this
      omega
    · subst k0
      rcases Nat.lt_trichotomy i j with e | e | e
      · left; have := (pw_get ok.pw hi hb e).2; omega
      · left; subst e; rw [hb] at hi; cases hi; omega
      · right
        by_cases e2 : i = j + 1
        · subst e2; rw [h2] at hi; cases hi; omega
        · have := (pw_get ok.pw h2 hi (by omega)).2; omega
    · right
      have := (ok.later hr hs k0).2
      simp only [Pm.mv3, Pm.la_mv] at this
      omega
/-- a gap: moments that nobody arrives at, between two arrivals -/
def GapS (g : Int → Int → Prop) (lo hi : Int) : Prop := lo ≤ hi ∧ (∃ z, g z (lo - 1)) ∧ (∃ z, g z (hi + 1)) ∧ ∀ z w, lo ≤ w → w ≤ hi → ¬ g z w
def GapSet (c : Int) (g : Int → Int → Prop) (ns : List Int) : Prop := ∃ lo hi, ns = [lo, hi] ∧ GapS g lo hi ∧ 0 ≤ lo ∧ lo < c
theorem gap_of {c : Int} {rs : List Rn} (ok : Pm.Ok c rs) {q : Rn × Rn} (h : q ∈ prs c rs) (l : Pm.la q.1 + 1 < q.2.2.2) : GapS (Pm.G c rs) (Pm.la q.1 + 1) (q.2.2.2 - 1) := by
  obtain ⟨g1, g2, _⟩ := prs_G ok h
  refine ⟨by omega, ⟨_, by rw [show Pm.la q.1 + 1 - 1 = Pm.la q.1 by omega]; exact g1⟩, ⟨_, by rw [show q.2.2.2 - 1 + 1 = q.2.2.2 by omega]; exact g2⟩, ?_⟩
  rintro z w a b ⟨s, hs, k, h1, h2, e⟩
  have hl : Pm.la s = s.2.2 + s.2.1 - s.1 := rfl
  rcases prs_consA ok q h s hs k with e2 | e2 <;> omega
theorem gap_in {c : Int} {rs : List Rn} (ok : Pm.Ok c rs) {lo hi : Int} (h : GapS (Pm.G c rs) lo hi) :
    ∃ x ∈ prs c rs, ∃ k : Int, Pm.la x.1 + 1 + k * c = lo ∧ x.2.2.2 - 1 + k * c = hi ∧ Pm.la x.1 + 1 < x.2.2.2 := by
  obtain ⟨le, ⟨z0, s, hs, j, s1, s2, es⟩, ⟨z1, r, hr, k, r1, r2, er⟩, no⟩ := h
  have q0 : hi + 1 = r.2.2 + k * c := by
    by_cases z : z1 = r.1 + k * c
    · omega
    · exact absurd ⟨r, hr, k, by omega, by omega, by omega⟩ (no (z1 - 1) hi le (Int.le_refl _))
  obtain ⟨b, hb⟩ := prs_snd (c := c) hr
  obtain ⟨g1, g2, g3⟩ := prs_G ok hb
  have go := prs_goes ok _ hb
  have lt2 : Pm.la b < r.2.2 := go.2
  have hc := prs_consA ok _ hb s hs (j - k)
  have e1 : (j - k) * c = j * c - k * c := Int.sub_mul ..
  have hc : Pm.la s + (j - k) * c ≤ Pm.la b ∨ r.2.2 ≤ s.2.2 + (j - k) * c := hc
  rw [e1] at hc
  have hl : Pm.la s = s.2.2 + s.2.1 - s.1 := rfl
  have g1 : Pm.G c rs b.2.1 (Pm.la b) := g1
  have gk := Pm.G_move k g1
  have nb : ¬ lo ≤ Pm.la b + k * c := fun z => no _ _ z (by omega) gk
  refine ⟨(b, r), hb, k, ?_, ?_, ?_⟩
  · show Pm.la b + 1 + k * c = lo
    rcases hc with z | z <;> omega
  · show r.2.2 - 1 + k * c = hi
    omega
  · show Pm.la b + 1 < r.2.2
    rcases hc with z | z <;> omega
theorem gap_move {c : Int} {rs : List Rn} {lo hi : Int} (j : Int) (h : GapS (Pm.G c rs) lo hi) : GapS (Pm.G c rs) (lo + j * c) (hi + j * c) := by
  obtain ⟨h1, ⟨z0, h2⟩, ⟨z1, h3⟩, h4⟩ := h
  refine ⟨by omega, ⟨z0 + j * c, ?_⟩, ⟨z1 + j * c, ?_⟩, fun z w a b g => ?_⟩
  · have := Pm.G_move j h2
    rwa [show lo - 1 + j * c = lo + j * c - 1 by omega] at this
  · have := Pm.G_move j h3
    rwa [show hi + 1 + j * c = hi + j * c + 1 by omega] at this
  · have := Pm.G_move (-j) g
    rw [Int.neg_mul] at this
    exact h4 _ _ (by omega) (by omega) this
theorem prs_farA {c : Int} {rs : List Rn} (ok : Pm.Ok c rs) {x y : Rn × Rn} (hx : x ∈ prs c rs) (hy : y ∈ prs c rs) {k : Int} (e : x.2.2.2 + k * c = y.2.2.2) : x.2 = y.2 := by
  obtain ⟨mx, _⟩ := prs_mem ok.ne x hx
  obtain ⟨my, _⟩ := prs_mem ok.ne y hy
  have fx := ok.fl _ mx
  have fy := ok.fl _ my
  have lx : Pm.la x.2 = x.2.2.2 + x.2.2.1 - x.2.1 := rfl
  have ly : Pm.la y.2 = y.2.2.2 + y.2.2.1 - y.2.1 := rfl
  rcases ok.tri2 mx my k 0 with ⟨h, _⟩ | h | h
  · exact h
  · have := h.2; simp only [Pm.mv3, Pm.la_mv] at this; omega
  · have := h.2; simp only [Pm.mv3, Pm.la_mv] at this; omega
theorem gap_rows {c : Int} {rs : List Rn} (ok : Pm.Ok c rs) {zs : List (List Int)} (pm : zs.Perm ((gapL c rs).map (homeL c))) (pw : zs.Pairwise fun a b => TsO.lexL b a = false) : IsRows 2 (GapSet c (Pm.G c rs)) zs := by
  have c1 := ok.c1
  have hm : ∀ ns, ns ∈ zs ↔ ∃ x ∈ prs c rs, Pm.la x.1 + 1 < x.2.2.2 ∧ ns = homeL c [Pm.la x.1 + 1, x.2.2.2 - 1] := fun ns => by
    rw [pm.mem_iff]
    unfold gapL
    simp only [List.mem_map, List.mem_filter, decide_eq_true_eq]
    constructor
    · rintro ⟨_, ⟨x, ⟨hx, l⟩, rfl⟩, rfl⟩; exact ⟨x, hx, l, rfl⟩
    · rintro ⟨x, hx, l, rfl⟩; exact ⟨_, ⟨x, ⟨hx, l⟩, rfl⟩, rfl⟩
  refine ⟨pw, ?_, fun ns => ?_, fun ns h => ?_⟩
  · rw [pm.nodup_iff]
    unfold gapL
    rw [List.map_map]
    unfold List.Nodup
    rw [List.pairwise_map]
    refine List.Pairwise.imp_of_mem ?_ (List.Pairwise.sublist List.filter_sublist (prs_nodup ok))
    intro x y hx hy ne e
    have hx := (List.mem_filter.mp hx).1
    have hy := (List.mem_filter.mp hy).1
    have e2 : x.2.2.2 - 1 + -((Pm.la x.1 + 1) / c * c) = y.2.2.2 - 1 + -((Pm.la y.1 + 1) / c * c) := (List.cons.inj (List.cons.inj e).2).1
    refine ne (prs_farA ok hx hy (k := (Pm.la y.1 + 1) / c - (Pm.la x.1 + 1) / c) ?_)
    rw [Int.sub_mul]; omega
  · rw [hm]
    constructor
    · rintro ⟨x, hx, l, rfl⟩
      have e := Int.emod_add_mul_ediv (Pm.la x.1 + 1) c
      have r0 := Int.emod_nonneg (Pm.la x.1 + 1) (show c ≠ 0 by omega)
      have r1 := Int.emod_lt_of_pos (Pm.la x.1 + 1) (show 0 < c by omega)
      rw [Int.mul_comm] at e
      refine ⟨_, _, rfl, ?_, ?_, ?_⟩
      · have h := gap_move (-((Pm.la x.1 + 1) / c)) (gap_of ok hx l)
        rw [Int.neg_mul] at h
        exact h
      · show 0 ≤ Pm.la x.1 + 1 + -((Pm.la x.1 + 1) / c * c); omega
      · show Pm.la x.1 + 1 + -((Pm.la x.1 + 1) / c * c) < c; omega
    · rintro ⟨p, q, rfl, h, p0, p1⟩
      obtain ⟨x, hx, k, e1, e2, l⟩ := gap_in ok h
      refine ⟨x, hx, l, ?_⟩
      have e : (Pm.la x.1 + 1) / c * c = -(k * c) := by
        have : Pm.la x.1 + 1 = p + -k * c := by rw [Int.neg_mul]; omega
        rw [this, Int.add_mul_ediv_right _ _ (by omega), Int.ediv_eq_zero_of_lt p0 p1, Int.zero_add, Int.neg_mul]
      show [p, q] = [Pm.la x.1 + 1 + -((Pm.la x.1 + 1) / c * c), x.2.2.2 - 1 + -((Pm.la x.1 + 1) / c * c)]
      rw [e, ← e1, ← e2, Int.neg_neg]
  · obtain ⟨x, hx, l, rfl⟩ := (hm ns).mp h
    rfl
end Gr

set_option Elab.async false
set_option linter.all false
set_option pp.deepTerms false
set_option pp.maxSteps 3000
set_option maxRecDepth 100000
set_option maxHeartbeats 8000000
set_option exponentiation.threshold 3000
namespace Gr
open PySem PySem.Spec PyProof.Rows L2
open Pm (Rn)
theorem plat_is {c : Int} {rs : List Rn} (ok : Pm.Ok c rs) {p q y : Int} (h : PlatS (Pm.G c rs) p q y) : Pm.F c rs (p - 1) < Pm.F c rs p ∧ (∀ t, p ≤ t → t ≤ q → Pm.F c rs t = y) ∧ Pm.F c rs q < Pm.F c rs (q + 1) := by
  obtain ⟨h1, h2, h3, h4⟩ := h
  refine ⟨?_, fun t a b => F_next ok h1 b fun z' y' a' b' => h4 z' y' (by omega) b', (F_grows ok q).mp ⟨_, h1⟩⟩
  have := (F_grows ok (p - 1)).mp h3
  rwa [show p - 1 + 1 = p by omega] at this
theorem plat_uniq {c : Int} {rs : List Rn} (ok : Pm.Ok c rs) {p q y q' y' : Int} (h : PlatS (Pm.G c rs) p q y) (h' : PlatS (Pm.G c rs) p q' y') : q = q' ∧ y = y' := by
  have a := plat_is ok h
  have b := plat_is ok h'
  have e : y = y' := (a.2.1 p (Int.le_refl _) (by have := h.2.1; omega)).symm.trans (b.2.1 p (Int.le_refl _) (by have := h'.2.1; omega))
  refine ⟨?_, e⟩
  rcases Int.lt_trichotomy q q' with l | l | l
  · exact absurd h.1 (h'.2.2.2 q y (by have := h.2.1; omega) l)
  · exact l
  · exact absurd h'.1 (h.2.2.2 q' y' (by have := h'.2.1; omega) l)
end Gr

set_option linter.all false
/-! the first start at which two functions differ, or one is greater -/
namespace Pm
theorem Tiles.cov : ∀ {l : List (Int × Int)} {b e z : Int}, Tiles b e l → b ≤ z → z < e → ∃ p ∈ l, p.1 ≤ z ∧ z ≤ p.2
  | [], b, e, z, h, a, k => by cases h; omega
  | p :: l, b, e, z, ⟨h1, h2, h3⟩, a, k => by
    by_cases hz : z ≤ p.2
    · exact ⟨p, List.mem_cons_self, by omega, hz⟩
    · obtain ⟨q, hq, r⟩ := Tiles.cov h3 (z := z) (by omega) k
      exact ⟨q, List.mem_cons_of_mem _ hq, r⟩
theorem Tiles.split : ∀ {l m : List (Int × Int)} {b e : Int}, Tiles b e (l ++ m) → ∃ d, Tiles b d l ∧ Tiles d e m
  | [], m, b, e, h => ⟨b, rfl, h⟩
  | p :: l, m, b, e, ⟨h1, h2, h3⟩ => by
    obtain ⟨d, k1, k2⟩ := Tiles.split h3
    exact ⟨d, ⟨h1, h2, k1⟩, k2⟩
def FirstAt (c : Int) (p : Int → Int → Prop) (A B : Int → Int) : Option Int → Prop
  | none => ∀ t, ¬ p (A t) (B t)
  | some t => 0 ≤ t ∧ t < c ∧ p (A t) (B t) ∧ ∀ s, 0 ≤ s → s < t → ¬ p (A s) (B s)
theorem FirstAt.uniq {c : Int} {p : Int → Int → Prop} {A B : Int → Int} {x y : Option Int} (hx : FirstAt c p A B x) (hy : FirstAt c p A B y) : x = y := by
  cases x with
  | none =>
    cases y with
    | none => rfl
    | some u => exact absurd hy.2.2.1 (hx u)
  | some t =>
    cases y with
    | none => exact absurd hx.2.2.1 (hy t)
    | some u =>
      rcases Int.lt_trichotomy t u with l | l | l
      · exact absurd hx.2.2.1 (hy.2.2.2 t hx.1 l)
      · rw [l]
      · exact absurd hy.2.2.1 (hx.2.2.2 u hy.1 l)
/-- a part where the two differ nowhere, or right at its second start -/
theorem row_ne {A B : Int → Int} {r : R6} (le : r.1 ≤ r.2.1) (g : Good6 A B r) (e : r.2.2.1 = r.2.2.2.2.1) :
    (r.2.2.2.1 = r.2.2.2.2.2 → ∀ x, r.1 ≤ x → x ≤ r.2.1 → A x = B x) ∧ (r.2.2.2.1 ≠ r.2.2.2.2.2 → r.1 + 1 ≤ r.2.1 ∧ A (r.1 + 1) ≠ B (r.1 + 1)) := by
  obtain ⟨⟨p1, p2, p3, p4, pA, pB⟩, _⟩ := g
  obtain ⟨lo, hi, a, a', b, b'⟩ := r
  simp only [] at *
  constructor
  · intro e' x x0 x1
    rcases pA with pA | pA <;> rcases pB with pB | pB <;> (have q1 := pA x x0 x1; have q2 := pB x x0 x1; have q3 := pA hi le (Int.le_refl _); have q4 := pB hi le (Int.le_refl _); omega)
  · intro e'
    have l1 : lo + 1 ≤ hi := by
      refine Decidable.byContradiction fun h => ?_
      have : hi = lo := by omega
      rw [this] at p2 p4
      omega
    refine ⟨l1, ?_⟩
    rcases pA with pA | pA <;> rcases pB with pB | pB <;> (have q1 := pA (lo + 1) (by omega) l1; have q2 := pB (lo + 1) (by omega) l1; have q3 := pA hi le (Int.le_refl _); have q4 := pB hi le (Int.le_refl _); omega)
theorem row_gt {A B : Int → Int} {r : R6} (le : r.1 ≤ r.2.1) (g : Good6 A B r) (e : ¬ r.2.2.1 > r.2.2.2.2.1) :
    (¬ r.2.2.2.1 > r.2.2.2.2.2 → ∀ x, r.1 ≤ x → x ≤ r.2.1 → ¬ A x > B x) ∧ (r.2.2.2.1 > r.2.2.2.2.2 → r.1 + 1 ≤ r.2.1 ∧ A (r.1 + 1) > B (r.1 + 1) ∧ ¬ A r.1 > B r.1) := by
  obtain ⟨⟨p1, p2, p3, p4, pA, pB⟩, ov⟩ := g
  obtain ⟨lo, hi, a, a', b, b'⟩ := r
  simp only [] at *
  constructor
  · intro e' x x0 x1
    rcases ov with ov | ov
    · have := ov x x0 x1; omega
    · have o1 := ov lo (Int.le_refl _) le
      have o2 := ov hi le (Int.le_refl _)
      rcases pA with pA | pA <;> rcases pB with pB | pB <;> (have q1 := pA x x0 x1; have q2 := pB x x0 x1; have q3 := pA hi le (Int.le_refl _); have q4 := pB hi le (Int.le_refl _); omega)
  · intro e'
    have l1 : lo + 1 ≤ hi := by
      refine Decidable.byContradiction fun h => ?_
      have : hi = lo := by omega
      rw [this] at p2 p4
      omega
    rcases ov with ov | ov
    · have := ov hi le (Int.le_refl _); omega
    · have o1 := ov lo (Int.le_refl _) le
      refine ⟨l1, ?_, by omega⟩
      rcases pA with pA | pA <;> rcases pB with pB | pB <;> (have q1 := pA (lo + 1) (by omega) l1; have q2 := pB (lo + 1) (by omega) l1; have q3 := pA hi le (Int.le_refl _); have q4 := pB hi le (Int.le_refl _); omega)
/-- none in one cycle, none at all -/
theorem none_all {c : Int} {A B : Int → Int} (mA : Mono c A) (mB : Mono c B) {p : Int → Int → Prop} (sh : ∀ a b k : Int, p (a + k) (b + k) → p a b) (h : ∀ s, 0 ≤ s → s < c → ¬ p (A s) (B s)) (t : Int) : ¬ p (A t) (B t) := fun k => by
  have c1 := mA.c1
  have d1 := Int.emod_nonneg t (show c ≠ 0 by omega)
  have d2 := Int.emod_lt_of_pos t (show 0 < c by omega)
  have d3 := Int.mul_ediv_add_emod t c
  rw [Int.mul_comm] at d3
  have e : t = t % c + t / c * c := by omega
  rw [e, mA.per, mB.per] at k
  exact h _ d1 d2 (sh _ _ _ k)
end Pm

set_option linter.all false
/-! rows made of rows: moved, parted -/
namespace Pm
theorem Ok.sub {c : Int} {rs X : List Rn} (h : Ok c rs) (ne : X ≠ []) (sb : ∀ x ∈ X, ∃ r ∈ rs, r.1 ≤ x.1 ∧ x.1 ≤ x.2.1 ∧ x.2.1 ≤ r.2.1 ∧ x.2.2 = r.2.2 + (x.1 - r.1)) (pw : X.Pairwise GoesOn) : Ok c X := by
  refine ⟨h.c1, ne, fun x hx => ?_, pw, fun a ha b hb => ?_⟩
  · obtain ⟨r, _, _, l, _⟩ := sb x hx; exact l
  · obtain ⟨r, hr, a1, a2, a3, a4⟩ := sb a ha
    obtain ⟨q, hq, b1, b2, b3, b4⟩ := sb b hb
    have g := h.cy r hr q hq
    unfold GoesOn at g ⊢
    simp only [mv1, mv2, mv3, la_mv] at g ⊢
    unfold la at g ⊢
    omega
theorem Ok.shift {c : Int} {rs : List Rn} (h : Ok c rs) (s t : Int) : Ok c (rs.map fun r => (r.1 + s, r.2.1 + s, r.2.2 + t)) := by
  refine ⟨h.c1, fun e => h.ne (List.map_eq_nil_iff.mp e), fun x hx => ?_, ?_, fun a ha b hb => ?_⟩
  · obtain ⟨r, hr, rfl⟩ := List.mem_map.mp hx
    have := h.fl r hr
    simp only []; omega
  · rw [List.pairwise_map]
    refine h.pw.imp fun {a b} g => ?_
    unfold GoesOn la at *
    simp only []; omega
  · obtain ⟨r, hr, rfl⟩ := List.mem_map.mp ha
    obtain ⟨q, hq, rfl⟩ := List.mem_map.mp hb
    have g := h.cy r hr q hq
    unfold GoesOn at g ⊢
    simp only [mv1, mv2, mv3, la_mv] at g ⊢
    unfold la at g ⊢
    simp only [] at g ⊢
    omega
def cutP (r : Rn) (k : Int) : List Rn := [(r.1, k - 1, r.2.2), (k + 1, r.2.1, r.2.2 + k + 1 - r.1)]
def cutF (r : Rn) (k : Int) : List Rn := (cutP r k).filter fun x => decide (x.1 ≤ x.2.1)
theorem cutF_mem {r : Rn} {k : Int} (h1 : r.1 ≤ k) (h2 : k ≤ r.2.1) {x : Rn} (hx : x ∈ cutF r k) : r.1 ≤ x.1 ∧ x.1 ≤ x.2.1 ∧ x.2.1 ≤ r.2.1 ∧ x.2.2 = r.2.2 + (x.1 - r.1) := by
  unfold cutF cutP at hx
  obtain ⟨h, l⟩ := List.mem_filter.mp hx
  have l := of_decide_eq_true l
  simp only [List.mem_cons, List.not_mem_nil, or_false] at h
  rcases h with rfl | rfl <;> (simp only [] at l ⊢; omega)
theorem Ok.cut {c : Int} {A B : List Rn} {r : Rn} (h : Ok c (A ++ r :: B)) {k : Int} (h1 : r.1 ≤ k) (h2 : k ≤ r.2.1) (l : r.1 < r.2.1) : Ok c (A ++ cutF r k ++ B) := by
  have pw := h.pw
  obtain ⟨pA, pR, pAR⟩ := List.pairwise_append.mp pw
  obtain ⟨rB, pB⟩ := List.pairwise_cons.mp pR
  have one : cutF r k ≠ [] := fun e => by
    have : ∀ x ∈ cutP r k, ¬ (decide (x.1 ≤ x.2.1)) = true := List.filter_eq_nil_iff.mp e
    have a1 := this (r.1, k - 1, r.2.2) (by simp [cutP])
    have a2 := this (k + 1, r.2.1, r.2.2 + k + 1 - r.1) (by simp [cutP])
    simp only [decide_eq_true_eq] at a1 a2
    omega
  have fl := h.fl
  refine h.sub (fun e => one (List.append_eq_nil_iff.mp (List.append_eq_nil_iff.mp e).1).2) (fun x hx => ?_) ?_
  · rcases List.mem_append.mp hx with hx | hx
    · rcases List.mem_append.mp hx with hx | hx
      · have := fl x (List.mem_append_left _ hx)
        exact ⟨x, List.mem_append_left _ hx, by omega⟩
      · exact ⟨r, List.mem_append_right _ List.mem_cons_self, cutF_mem h1 h2 hx⟩
    · have := fl x (List.mem_append_right _ (List.mem_cons_of_mem _ hx))
      exact ⟨x, List.mem_append_right _ (List.mem_cons_of_mem _ hx), by omega⟩
  · refine List.pairwise_append.mpr ⟨List.pairwise_append.mpr ⟨pA, ?_, fun a ha x hx => ?_⟩, pB, fun a ha b hb => ?_⟩
    · refine List.Pairwise.filter _ ?_
      unfold cutP
      refine List.pairwise_cons.mpr ⟨fun x hx => ?_, List.pairwise_singleton _ _⟩
      rw [List.mem_singleton.mp hx]
      unfold GoesOn la
      simp only []; omega
    · have g := pAR a ha r List.mem_cons_self
      have m := cutF_mem h1 h2 hx
      unfold GoesOn la at *
      omega
    · rcases List.mem_append.mp ha with ha | ha
      · exact pAR a ha b (List.mem_cons_of_mem _ hb)
      · have g := rB b hb
        have m := cutF_mem h1 h2 ha
        unfold GoesOn la at *
        omega
theorem cutF_len (r : Rn) (k : Int) : (cutF r k).length ≤ 2 := Nat.le_trans (List.length_filter_le _ _) (Nat.le_refl 2)
end Pm

set_option linter.all false
/-! the first difference between border and border -/
namespace Pm
def Upto (c : Int) (p : Int → Int → Prop) (A B : Int → Int) (e : Int) : Option Int → Prop
  | none => ∀ s, 0 ≤ s → s < e → ¬ p (A s) (B s)
  | some t => 0 ≤ t ∧ t < c ∧ p (A t) (B t) ∧ ∀ s, 0 ≤ s → s < t → ¬ p (A s) (B s)
theorem Upto.all {c : Int} {p : Int → Int → Prop} {A B : Int → Int} (mA : Mono c A) (mB : Mono c B) (sh : ∀ a b k : Int, p (a + k) (b + k) → p a b) {o : Option Int} (h : Upto c p A B c o) : FirstAt c p A B o := by
  cases o with
  | none => exact none_all mA mB sh h
  | some t => exact h
theorem Upto.keep {c : Int} {p : Int → Int → Prop} {A B : Int → Int} {e e' : Int} {o : Option Int} (h : Upto c p A B e o) (k : o = none → ∀ s, e ≤ s → s < e' → ¬ p (A s) (B s)) : Upto c p A B e' o := by
  cases o with
  | none => exact fun s s0 s1 => if l : s < e then h s s0 l else k rfl s (by omega) s1
  | some t => exact h
theorem Upto.found {c : Int} {p : Int → Int → Prop} {A B : Int → Int} {e t : Int} (h : Upto c p A B e none) (e0 : 0 ≤ e) (te : e ≤ t) (tc : t < c) (g : p (A t) (B t)) (k : ∀ s, e ≤ s → s < t → ¬ p (A s) (B s)) (e' : Int) : Upto c p A B e' (some t) :=
  ⟨by omega, tc, g, fun s s0 s1 => if l : s < e then h s s0 l else k s (by omega) s1⟩
def gainQ (A B : Int → Int) (p e : Int) : Int := (A (p + 1) - A p - B (p + 1) + B p) * (if e > p + 1 then 1 else 0)
theorem lin_pair {A B : Int → Int} {p e : Int} (le : p < e) (hA : Lin A p (e - 1)) (hB : Lin B p (e - 1)) :
    (gainQ A B p e = -1 ∨ gainQ A B p e = 0 ∨ gainQ A B p e = 1) ∧ ∀ x, p ≤ x → x < e → (x = p → A x - B x = A p - B p) ∧ (gainQ A B p e = 0 → A x - B x = A p - B p) ∧ (gainQ A B p e = 1 → A x - B x = A p - B p + (x - p)) ∧ (gainQ A B p e = -1 → A x - B x = A p - B p - (x - p)) ∧ (gainQ A B p e ≠ 0 → p + 1 < e) := by
  unfold gainQ
  by_cases l : e > p + 1
  · rw [if_pos l, Int.mul_one]
    rcases hA with hA | hA <;> rcases hB with hB | hB <;> (have a1 := hA (p + 1) (by omega) (by omega); have b1 := hB (p + 1) (by omega) (by omega))
    all_goals
      refine ⟨by omega, fun x x0 x1 => ?_⟩
      have a2 := hA x (by omega) (by omega)
      have b2 := hB x (by omega) (by omega)
      refine ⟨fun h => by omega, fun h => by omega, fun h => by omega, fun h => by omega, fun h => by omega⟩
  · rw [if_neg l, Int.mul_zero]
    refine ⟨.inr (.inl rfl), fun x x0 x1 => ?_⟩
    have : x = p := by omega
    subst this
    refine ⟨fun h => rfl, fun h => rfl, fun h => by omega, fun h => by omega, fun h => by omega⟩
theorem exact_ne {c : Int} {A B : Int → Int} {p e : Int} (p0 : 0 ≤ p) (le : p < e) (ec : e ≤ c) (hA : Lin A p (e - 1)) (hB : Lin B p (e - 1)) (h : Upto c (fun a b => a ≠ b) A B p none) :
    (A p - B p ≠ 0 ∨ gainQ A B p e ≠ 0 → Upto c (fun a b => a ≠ b) A B e (some (p + if A p - B p = 0 then 1 else 0))) ∧ (¬ (A p - B p ≠ 0 ∨ gainQ A B p e ≠ 0) → Upto c (fun a b => a ≠ b) A B e none) := by
  obtain ⟨g, al⟩ := lin_pair le hA hB
  refine ⟨fun k => ?_, fun k => h.keep fun _ s s0 s1 => ?_⟩
  · by_cases z : A p - B p = 0
    · rw [if_pos z]
      have k : gainQ A B p e ≠ 0 := k.elim (fun f => absurd z f) id
      have a0 := al p (by omega) le
      have a1 := al (p + 1) (by omega) (by omega)
      refine h.found p0 (by omega) (by omega) (by show A (p + 1) ≠ B (p + 1); omega) (fun s s0 s1 => ?_) e
      have : s = p := by omega
      subst this
      show ¬ A s ≠ B s
      omega
    · rw [if_neg z, Int.add_zero]
      exact h.found p0 (Int.le_refl _) (by omega) (by show A p ≠ B p; omega) (fun s s0 s1 => by omega) e
  · have a1 := al s s0 s1
    show ¬ A s ≠ B s
    omega
theorem exact_gt {c : Int} {A B : Int → Int} {p e : Int} (p0 : 0 ≤ p) (le : p < e) (ec : e ≤ c) (hA : Lin A p (e - 1)) (hB : Lin B p (e - 1)) (h : Upto c (fun a b => a > b) A B p none) :
    ((A p - B p > 0 ∨ gainQ A B p e > 0) ∧ (if A p - B p > 0 then p else p + 1 - (A p - B p)) < e → Upto c (fun a b => a > b) A B e (some (if A p - B p > 0 then p else p + 1 - (A p - B p)))) ∧
    (¬ ((A p - B p > 0 ∨ gainQ A B p e > 0) ∧ (if A p - B p > 0 then p else p + 1 - (A p - B p)) < e) → Upto c (fun a b => a > b) A B e none) := by
  obtain ⟨g, al⟩ := lin_pair le hA hB
  by_cases z : A p - B p > 0
  · rw [if_pos z]
    refine ⟨fun k => ?_, fun k => absurd ⟨.inl z, le⟩ k⟩
    exact h.found p0 (Int.le_refl _) (by omega) (by show A p > B p; omega) (fun s s0 s1 => by omega) e
  · rw [if_neg z]
    refine ⟨fun k => ?_, fun k => h.keep fun _ s s0 s1 => ?_⟩
    · have g1 : gainQ A B p e = 1 := by omega
      have a1 := al (p + 1 - (A p - B p)) (by omega) (by omega)
      refine h.found p0 (by omega) (by omega) (by show A _ > B _; omega) (fun s s0 s1 => ?_) e
      have a2 := al s (by omega) (by omega)
      show ¬ A s > B s
      omega
    · have a2 := al s s0 s1
      show ¬ A s > B s
      omega
end Pm

set_option linter.all false
/-! how many starts of one cycle have a property that comes back with each cycle -/
namespace Pm
open Classical in
noncomputable def cntL (c : Int) (P : Int → Prop) : List Int := ((List.range c.toNat).filter fun k : Nat => decide (P (k : Int))).map fun k : Nat => (k : Int)
noncomputable def cnt (c : Int) (P : Int → Prop) : Nat := (cntL c P).length
theorem cntL_mem {c : Int} {P : Int → Prop} {x : Int} : x ∈ cntL c P ↔ 0 ≤ x ∧ x < c ∧ P x := by
  unfold cntL
  constructor
  · intro h
    obtain ⟨k, hk, rfl⟩ := List.mem_map.mp h
    obtain ⟨h1, h2⟩ := List.mem_filter.mp hk
    have := List.mem_range.mp h1
    exact ⟨by omega, by omega, by simpa using h2⟩
  · rintro ⟨h0, h1, h2⟩
    obtain ⟨k, rfl⟩ := Int.eq_ofNat_of_zero_le h0
    exact List.mem_map.mpr ⟨k, List.mem_filter.mpr ⟨List.mem_range.mpr (by omega), by simpa using h2⟩, rfl⟩
theorem cntL_pw (c : Int) (P : Int → Prop) : (cntL c P).Pairwise (· < ·) := by
  unfold cntL
  rw [List.pairwise_map]
  refine (List.Pairwise.filter _ List.pairwise_lt_range).imp fun {a b} h => ?_
  omega
theorem nodup_le : ∀ {A B : List Int}, A.Nodup → (∀ x ∈ A, x ∈ B) → A.length ≤ B.length
  | [], B, _, _ => Nat.zero_le _
  | a :: A, B, h, s => by
    obtain ⟨h1, h2⟩ := List.nodup_cons.mp h
    have ha := s a List.mem_cons_self
    have := nodup_le (A := A) (B := B.erase a) h2 fun x hx => (List.mem_erase_of_ne (fun e => h1 (by rw [← e]; exact hx))).mpr (s x (List.mem_cons_of_mem _ hx))
    rw [List.length_erase_of_mem ha] at this
    have l : 0 < B.length := List.length_pos_of_mem ha
    rw [List.length_cons]
    omega
theorem pw_nodup {A : List Int} (h : A.Pairwise (· < ·)) : A.Nodup := h.imp fun {a b} l => by omega
theorem cnt_le {c : Int} {A : List Int} {P : Int → Prop} (h : A.Nodup) (s : ∀ x ∈ A, 0 ≤ x ∧ x < c ∧ P x) : A.length ≤ cnt c P := nodup_le h fun x hx => cntL_mem.mpr (s x hx)
theorem cnt_is {c : Int} {A : List Int} {P : Int → Prop} (h : A.Nodup) (s : ∀ x, x ∈ A ↔ 0 ≤ x ∧ x < c ∧ P x) : A.length = cnt c P :=
  Nat.le_antisymm (cnt_le h fun x hx => (s x).mp hx) (nodup_le (pw_nodup (cntL_pw c P)) fun x hx => (s x).mpr (cntL_mem.mp hx))
theorem cnt_congr {c : Int} {P Q : Int → Prop} (h : ∀ x, P x ↔ Q x) : cnt c P = cnt c Q := by
  have : P = Q := funext fun x => propext (h x)
  rw [this]
theorem cnt_or {c : Int} {P A B : Int → Prop} (h : ∀ x, P x → A x ∨ B x) : cnt c P ≤ cnt c A + cnt c B := by
  have := nodup_le (A := cntL c P) (B := cntL c A ++ cntL c B) (pw_nodup (cntL_pw c P)) fun x hx => by
    obtain ⟨h0, h1, h2⟩ := cntL_mem.mp hx
    rcases h x h2 with k | k
    · exact List.mem_append_left _ (cntL_mem.mpr ⟨h0, h1, k⟩)
    · exact List.mem_append_right _ (cntL_mem.mpr ⟨h0, h1, k⟩)
  rwa [List.length_append] at this
/-- one into the other, in order -/
theorem cnt_inj {c : Int} (c1 : 1 ≤ c) {P Q : Int → Prop} (per : ∀ x k : Int, Q x → Q (x + k * c)) (f : Int → Int) (h : ∀ x, P x → Q (f x)) (up : ∀ s t, 0 ≤ s → s < t → t < c → P s → P t → f s < f t ∧ f t < f s + c) : cnt c P ≤ cnt c Q := by
  have e : (cntL c P).length = ((cntL c P).map fun x => f x % c).length := by rw [List.length_map]
  unfold cnt
  rw [e]
  refine nodup_le ?_ fun x hx => ?_
  · show List.Pairwise _ _
    rw [List.pairwise_map]
    refine (cntL_pw c P).imp_of_mem fun {a b} ha hb l q => ?_
    have ma := cntL_mem.mp ha
    have mb := cntL_mem.mp hb
    obtain ⟨u1, u2⟩ := up a b ma.1 l mb.2.1 ma.2.2 mb.2.2
    have d := Int.emod_emod_of_dvd (f b - f a) (Int.dvd_refl c)
    have z : (f b - f a) % c = 0 := by
      rw [Int.sub_emod, q, Int.sub_self, Int.zero_emod]
    rw [Int.emod_eq_of_lt (by omega) (by omega)] at z
    omega
  · obtain ⟨y, hy, rfl⟩ := List.mem_map.mp hx
    have my := cntL_mem.mp hy
    refine cntL_mem.mpr ⟨Int.emod_nonneg _ (by omega), Int.emod_lt_of_pos _ (by omega), ?_⟩
    have e := Int.emod_add_mul_ediv (f y) c
    have := per (f y) (-(f y / c)) (h y my.2.2)
    rw [Int.neg_mul, Int.mul_comm (f y / c)] at this
    have e2 : f y + -(c * (f y / c)) = f y % c := by omega
    rwa [e2] at this
theorem cnt_shift {c : Int} (c1 : 1 ≤ c) {P Q : Int → Prop} (a : Int) (perP : ∀ x k : Int, P x → P (x + k * c)) (perQ : ∀ x k : Int, Q x → Q (x + k * c)) (h : ∀ x, P x ↔ Q (x + a)) : cnt c P = cnt c Q :=
  Nat.le_antisymm (cnt_inj c1 perQ (fun x => x + a) (fun x hx => (h x).mp hx) fun s t _ l tc _ _ => by show s + a < t + a ∧ t + a < s + a + c; omega)
    (cnt_inj c1 perP (fun x => x - a) (fun x hx => (h _).mpr (by show Q (x - a + a); rwa [Int.sub_add_cancel])) fun s t _ l tc _ _ => by show s - a < t - a ∧ t - a < s - a + c; omega)
theorem cnt_mul {c : Int} (c1 : 1 ≤ c) {P : Int → Prop} (per : ∀ x k : Int, P x → P (x + k * c)) : ∀ m : Nat, cnt (m * c) P = m * cnt c P
  | 0 => by simp [cnt, cntL]
  | m + 1 => by
    have ih := cnt_mul c1 per m
    have e : (((m + 1 : Nat) : Int) * c).toNat = ((m : Int) * c).toNat + c.toNat := by
      have := Int.mul_nonneg (show (0 : Int) ≤ (m : Int) by omega) (show 0 ≤ c by omega)
      rw [show ((m + 1 : Nat) : Int) = (m : Int) + 1 by omega, Int.add_mul, Int.one_mul, Int.toNat_add this (by omega)]
    have pi : ∀ k : Nat, P ((((m : Int) * c).toNat + k : Nat) : Int) ↔ P (k : Int) := fun k => by
      have z := Int.mul_nonneg (show (0 : Int) ≤ (m : Int) by omega) (show 0 ≤ c by omega)
      have e2 : ((((m : Int) * c).toNat + k : Nat) : Int) = (k : Int) + (m : Int) * c := by omega
      rw [e2]
      refine ⟨fun h => ?_, fun h => per _ _ h⟩
      have := per _ (-(m : Int)) h
      rwa [Int.neg_mul, show (k : Int) + (m : Int) * c + -((m : Int) * c) = (k : Int) by omega] at this
    unfold cnt cntL at ih ⊢
    rw [List.length_map] at ih ⊢
    rw [List.length_map] at ih ⊢
    rw [e, List.range_add, List.filter_append, List.length_append, ih, List.filter_map, List.length_map]
    have : ((fun k : Nat => @decide (P (k : Int)) (Classical.propDecidable _)) ∘ fun x => ((m : Int) * c).toNat + x) = fun k : Nat => @decide (P (k : Int)) (Classical.propDecidable _) := by
      funext k
      exact decide_eq_decide.mpr (pi k)
    rw [this, Nat.add_mul, Nat.one_mul]
/-- the last start of a platoon; a start ahead of a gap -/
def PE (F : Int → Int) (s : Int) : Prop := F (s - 1) = F s ∧ F s < F (s + 1)
def GE (F : Int → Int) (s : Int) : Prop := F s + 1 < F (s + 1)
theorem PE.per {c : Int} {F : Int → Int} (m : Mono c F) (x k : Int) (h : PE F x) : PE F (x + k * c) := by
  have e1 := m.per (x - 1) k
  have e2 := m.per x k
  have e3 := m.per (x + 1) k
  rw [show x - 1 + k * c = x + k * c - 1 by omega] at e1
  rw [show x + 1 + k * c = x + k * c + 1 by omega] at e3
  unfold PE at *
  omega
theorem GE.per {c : Int} {F : Int → Int} (m : Mono c F) (x k : Int) (h : GE F x) : GE F (x + k * c) := by
  have e2 := m.per x k
  have e3 := m.per (x + 1) k
  rw [show x + 1 + k * c = x + k * c + 1 by omega] at e3
  unfold GE at *
  omega
/-- starts that have a platoon's value -/
theorem cnt_val {c : Int} {A H : Int → Int} (mA : Mono c A) (mH : Mono c H) : cnt c (fun s => H s < H (s + 1) ∧ ∃ u, PE A u ∧ A u = H s) ≤ cnt c (PE A) := by
  refine cnt_inj mA.c1 (fun x k h => PE.per mA x k h) (fun s => Classical.epsilon fun u => PE A u ∧ A u = H s) (fun s h => (Classical.epsilon_spec h.2).1) fun s t s0 l tc hs ht => ?_
  have es := (Classical.epsilon_spec hs.2).2
  have et := (Classical.epsilon_spec ht.2).2
  generalize (Classical.epsilon fun u => PE A u ∧ A u = H s) = u at es
  generalize (Classical.epsilon fun u => PE A u ∧ A u = H t) = v at et
  have h1 := mH.up (s + 1) t (by omega)
  have h2 := mH.up (t + 1) (s + 1 * c) (by omega)
  rw [mH.per] at h2
  constructor
  · refine Decidable.byContradiction fun n => ?_
    have := mA.up v u (by omega)
    omega
  · refine Decidable.byContradiction fun n => ?_
    have := mA.up (u + 1 * c) v (by omega)
    rw [mA.per] at this
    omega
/-- a flat stretch has an end -/
theorem flat_end {c : Int} {A : Int → Int} (mA : Mono c A) {u : Int} (h : A (u - 1) = A u) : ∃ v, u ≤ v ∧ PE A v ∧ A v = A u := by
  have gr : ∃ n : Nat, A u < A (u + n + 1) := ⟨c.toNat, by
    have c1 := mA.c1
    have e := mA.per u 1
    have := mA.up (u + 1 * c) (u + c.toNat + 1) (by omega)
    omega⟩
  have ⟨n, hn, mn⟩ : ∃ n : Nat, A u < A (u + n + 1) ∧ ∀ m : Nat, m < n → ¬ A u < A (u + m + 1) := by
    obtain ⟨n, hn⟩ := gr
    induction n using Nat.strongRecOn with
    | _ n ih =>
      by_cases e : ∃ m, m < n ∧ A u < A (u + m + 1)
      · obtain ⟨m, hm, h⟩ := e
        exact ih m hm h
      · exact ⟨n, hn, fun m hm h => e ⟨m, hm, h⟩⟩
  have eq : A (u + n) = A u := by
    cases n with
    | zero => simp
    | succ k =>
      have a := mn k (by omega)
      have b := mA.up u (u + k + 1) (by omega)
      rw [show u + ((k + 1 : Nat) : Int) = u + k + 1 by omega]
      omega
  refine ⟨u + n, by omega, ⟨?_, by omega⟩, eq⟩
  cases n with
  | zero => simpa using h
  | succ k =>
    have a := mA.up u (u + ((k + 1 : Nat) : Int) - 1) (by omega)
    have b := mA.up (u + ((k + 1 : Nat) : Int) - 1) (u + ((k + 1 : Nat) : Int)) (by omega)
    omega
theorem PE.val {A : Int → Int} {s : Int} (h : PE A s) : A s < A (s + 1) ∧ ∃ u, PE A u ∧ A u = A s := ⟨h.2, s, h, rfl⟩
theorem pe_add {c : Int} {A B : Int → Int} (mA : Mono c A) (mB : Mono c B) : cnt c (PE fun x => B (A x)) ≤ cnt c (PE A) + cnt c (PE B) := by
  refine Nat.le_trans (cnt_or (A := PE A) (B := fun s => B (A s) < B (A (s + 1)) ∧ ∃ u, PE B u ∧ B u = B (A s)) fun s h => ?_) (Nat.add_le_add_left (cnt_val mB (mA.comp mB)) _)
  obtain ⟨h1, h2⟩ := h
  have h1 : B (A (s - 1)) = B (A s) := h1
  have h2 : B (A s) < B (A (s + 1)) := h2
  have a1 := mA.up (s - 1) s (by omega)
  have a2 := mA.up s (s + 1) (by omega)
  by_cases e : A (s - 1) = A s
  · refine .inl ⟨e, Decidable.byContradiction fun n => ?_⟩
    rw [show A (s + 1) = A s by omega] at h2
    omega
  · right
    have b1 := mB.up (A (s - 1)) (A s - 1) (by omega)
    have b2 := mB.up (A s - 1) (A s) (by omega)
    obtain ⟨v, _, pv, ev⟩ := flat_end mB (u := A s) (by omega)
    exact ⟨h2, v, pv, ev⟩
theorem pe_mn {c : Int} {A B : Int → Int} (mA : Mono c A) (mB : Mono c B) : cnt c (PE fun x => mn (A x) (B x)) ≤ cnt c (PE A) + cnt c (PE B) := by
  refine cnt_or fun s h => ?_
  obtain ⟨h1, h2⟩ := h
  have h1 : mn (A (s - 1)) (B (s - 1)) = mn (A s) (B s) := h1
  have h2 : mn (A s) (B s) < mn (A (s + 1)) (B (s + 1)) := h2
  have a1 := mA.up (s - 1) s (by omega)
  have b1 := mB.up (s - 1) s (by omega)
  unfold PE
  unfold mn at h1 h2
  by_cases e : B s < A s
  · right
    rw [if_pos e] at h1 h2
    refine ⟨?_, ?_⟩
    · split at h1 <;> omega
    · split at h2 <;> omega
  · left
    rw [if_neg e] at h1 h2
    refine ⟨?_, ?_⟩
    · split at h1 <;> omega
    · split at h2 <;> omega
theorem pe_mx {c : Int} {A B : Int → Int} (mA : Mono c A) (mB : Mono c B) : cnt c (PE fun x => mx (A x) (B x)) ≤ cnt c (PE A) + cnt c (PE B) := by
  have mH := mA.mx mB
  refine Nat.le_trans (cnt_or (A := fun s => mx (A s) (B s) < mx (A (s + 1)) (B (s + 1)) ∧ ∃ u, PE A u ∧ A u = mx (A s) (B s)) (B := fun s => mx (A s) (B s) < mx (A (s + 1)) (B (s + 1)) ∧ ∃ u, PE B u ∧ B u = mx (A s) (B s)) fun s h => ?_) (Nat.add_le_add (cnt_val mA mH) (cnt_val mB mH))
  obtain ⟨h1, h2⟩ := h
  have h1 : mx (A (s - 1)) (B (s - 1)) = mx (A s) (B s) := h1
  have h2 : mx (A s) (B s) < mx (A (s + 1)) (B (s + 1)) := h2
  have a1 := mA.up (s - 1) s (by omega)
  have b1 := mB.up (s - 1) s (by omega)
  have l1 : A s ≤ mx (A s) (B s) := by unfold mx; split <;> omega
  have l2 : B s ≤ mx (A s) (B s) := by unfold mx; split <;> omega
  by_cases e : B (s - 1) > A (s - 1)
  · right
    have e1 : mx (A (s - 1)) (B (s - 1)) = B (s - 1) := by unfold mx; rw [if_pos e]
    obtain ⟨v, _, pv, ev⟩ := flat_end mB (u := s) (by omega)
    exact ⟨h2, v, pv, by omega⟩
  · left
    have e1 : mx (A (s - 1)) (B (s - 1)) = A (s - 1) := by unfold mx; rw [if_neg e]
    obtain ⟨v, _, pv, ev⟩ := flat_end mA (u := s) (by omega)
    exact ⟨h2, v, pv, by omega⟩
theorem ge_add {c : Int} {A B : Int → Int} (mA : Mono c A) (mB : Mono c B) : cnt c (GE fun x => B (A x)) ≤ cnt c (GE A) + cnt c (GE B) := by
  refine Nat.le_trans (cnt_or (A := GE A) (B := fun s => A s < A (s + 1) ∧ GE B (A s)) fun s h => ?_) (Nat.add_le_add_left (cnt_inj mA.c1 (fun x k h => GE.per mB x k h) A (fun s h => h.2) fun s t s0 l tc hs ht => ?_) _)
  · have h : B (A s) + 1 < B (A (s + 1)) := h
    have a2 := mA.up s (s + 1) (by omega)
    by_cases e : GE A s
    · exact .inl e
    · right
      unfold GE at e ⊢
      have g : A s < A (s + 1) := Decidable.byContradiction fun n => by
        rw [show A (s + 1) = A s by omega] at h; omega
      refine ⟨g, ?_⟩
      rw [show A s + 1 = A (s + 1) by omega]
      exact h
  · have h1 := mA.up (s + 1) t (by omega)
    have h2 := mA.up (t + 1) (s + 1 * c) (by omega)
    rw [mA.per] at h2
    omega
theorem ge_mn {c : Int} {A B : Int → Int} (mA : Mono c A) (mB : Mono c B) : cnt c (GE fun x => mn (A x) (B x)) ≤ cnt c (GE A) + cnt c (GE B) := by
  refine cnt_or fun s h => ?_
  have h : mn (A s) (B s) + 1 < mn (A (s + 1)) (B (s + 1)) := h
  unfold GE
  unfold mn at h
  split at h <;> split at h <;> omega
theorem ge_mx {c : Int} {A B : Int → Int} (mA : Mono c A) (mB : Mono c B) : cnt c (GE fun x => mx (A x) (B x)) ≤ cnt c (GE A) + cnt c (GE B) := by
  refine cnt_or fun s h => ?_
  have h : mx (A s) (B s) + 1 < mx (A (s + 1)) (B (s + 1)) := h
  unfold GE
  unfold mx at h
  split at h <;> split at h <;> omega
end Pm

set_option Elab.async false
set_option linter.all false
set_option pp.deepTerms false
set_option pp.maxSteps 3000
set_option maxRecDepth 100000
set_option maxHeartbeats 8000000
set_option exponentiation.threshold 3000
namespace Gr
open PySem PySem.Spec PyProof.Rows L2
open Pm (Rn)
/-! ### platoons and gaps counted -/
theorem gap_atC {c : Int} {rs : List Rn} (ok : Pm.Ok c rs) {s : Int} (h : Pm.F c rs (s - 1) + 1 < Pm.F c rs s) : GapS (Pm.G c rs) (Pm.F c rs (s - 1) + 1) (Pm.F c rs s - 1) := by
  obtain ⟨y, hy⟩ := (F_grows ok (s - 1)).mpr (by rw [show s - 1 + 1 = s by omega]; omega)
  have e := F_last ok hy
  obtain ⟨z, z0, gz, mz⟩ := ok.F_is s
  refine ⟨by omega, ⟨s - 1, by rw [show Pm.F c rs (s - 1) + 1 - 1 = Pm.F c rs (s - 1) by omega, e]; exact hy⟩, ⟨z, by rw [show Pm.F c rs s - 1 + 1 = Pm.F c rs s by omega]; exact gz⟩, fun z' w a b g => ?_⟩
  rcases Int.lt_trichotomy z' (s - 1) with l | l | l
  · have := G_lt ok g hy l; omega
  · subst l; have := ok.fun2 _ _ _ g hy; omega
  · have := F_le ok g (x := s) (by omega); omega
theorem prs_fst {c : Int} {rs : List Rn} (ok : Pm.Ok c rs) : ∃ t : Int, ∀ q ∈ prs c rs, t - c ≤ q.1.2.1 ∧ q.1.2.1 < t := by
  obtain ⟨pre, l, rfl⟩ : ∃ pre l, rs = pre ++ [l] := by
    rcases List.eq_nil_or_concat rs with e | ⟨pre, l, e⟩
    · exact absurd e ok.ne
    · exact ⟨pre, l, by rw [e, List.concat_eq_append]⟩
  have c1 := ok.c1
  have ml : l ∈ pre ++ [l] := by simp
  refine ⟨l.2.1, fun q hq => ?_⟩
  unfold prs at hq
  rw [getLastD_snoc, dropLast_snoc] at hq
  have h1 : q.1 ∈ Pm.mv (-c) l :: pre := (List.of_mem_zip (a := q.1) (b := q.2) hq).1
  rcases List.mem_cons.mp h1 with e | h1
  · rw [e]; show l.2.1 - c ≤ l.2.1 + -c ∧ l.2.1 + -c < l.2.1; omega
  · have a := ((List.pairwise_append.mp ok.pw).2.2 q.1 h1 l (by simp)).1
    have b := ok.ll ml (List.mem_append_left [l] h1)
    have d := ok.fl q.1 (List.mem_append_left [l] h1)
    have e := ok.fl l ml
    omega
theorem plt_cnt {c : Int} {Z : List Rn} (can : Pm.Can c Z) : (pltL c Z).length = Pm.cnt c (Pm.PE (Pm.F c Z)) := by
  have ok := can.1
  have e : (pltL c Z).length = (((prs c Z).filter fun q => decide (q.1.2.1 + 1 < q.2.1)).map fun q => q.2.1).length := by
    unfold pltL; rw [List.length_map, List.length_map]
  rw [e]
  refine Pm.cnt_is ?_ fun x => ⟨fun h => ?_, fun ⟨h0, h1, h2, h3⟩ => ?_⟩
  · refine Pm.pw_nodup ?_
    rw [List.pairwise_map]
    refine ((prs_pw ok).filter _).imp_of_mem fun {a b} ha hb p => ?_
    have m := (prs_mem ok.ne a (List.mem_filter.mp ha).1).1
    have f := ok.fl a.2 m
    have g := p.1.1
    omega
  · obtain ⟨q, hq, rfl⟩ := List.mem_map.mp h
    obtain ⟨h1, h2⟩ := List.mem_filter.mp hq
    have h2 := of_decide_eq_true h2
    have m := (prs_mem ok.ne q h1).1
    have r := can_rng can q.2 m
    obtain ⟨p1, p2, p3⟩ := plat_is ok (plat_of ok h1 h2)
    refine ⟨r.1, r.2.1, ?_, p3⟩
    rw [p2 (q.2.1 - 1) (by omega) (by omega), p2 q.2.1 (by omega) (by omega)]
  · obtain ⟨y, hy⟩ := (F_grows ok x).mpr h3
    have nx : ¬ ∃ w, Pm.G c Z (x - 1) w := fun h => by
      have := (F_grows ok (x - 1)).mp h
      rw [show x - 1 + 1 = x by omega] at this
      omega
    obtain ⟨r, hr, k, r1, r2, er⟩ := id hy
    have e : r.1 + k * c = x := Decidable.byContradiction fun n => nx ⟨r.2.2 + (x - 1) - r.1, r, hr, k, by omega, by omega, rfl⟩
    have rg := can_rng can r hr
    have c1 := ok.c1
    have k0 : k = 0 := by
      rcases Int.lt_trichotomy k 0 with z | z | z
      · have := Int.mul_le_mul_of_nonneg_right (show k ≤ -1 by omega) (show 0 ≤ c by omega); omega
      · exact z
      · have := Int.mul_le_mul_of_nonneg_right (show 1 ≤ k by omega) (show 0 ≤ c by omega); omega
    subst k0
    have ex : r.1 = x := by omega
    obtain ⟨b, hb⟩ := prs_snd (c := c) hr
    obtain ⟨g1, g2, g3⟩ := prs_G ok hb
    have go := (prs_goes ok _ hb).1
    have go : b.2.1 < r.1 := go
    refine List.mem_map.mpr ⟨(b, r), List.mem_filter.mpr ⟨hb, decide_eq_true ?_⟩, ex⟩
    show b.2.1 + 1 < r.1
    refine Decidable.byContradiction fun n => nx ⟨Pm.la b, ?_⟩
    have : b.2.1 = x - 1 := by omega
    rw [← this]; exact g1
theorem gap_cnt {c : Int} {Z : List Rn} (can : Pm.Can c Z) : (gapL c Z).length = Pm.cnt c (Pm.GE (Pm.F c Z)) := by
  have ok := can.1
  have c1 := ok.c1
  have e : (gapL c Z).length = (((prs c Z).filter fun q => decide (Pm.la q.1 + 1 < q.2.2.2)).map fun q => q.1.2.1 % c).length := by
    unfold gapL; rw [List.length_map, List.length_map]
  rw [e]
  obtain ⟨t, ht⟩ := prs_fst ok
  refine Pm.cnt_is ?_ fun x => ⟨fun h => ?_, fun ⟨h0, h1, h2⟩ => ?_⟩
  · show List.Pairwise _ _
    rw [List.pairwise_map]
    refine ((prs_pw ok).filter _).imp_of_mem fun {a b} ha hb p q => ?_
    have ma := ht a (List.mem_filter.mp ha).1
    have mb := ht b (List.mem_filter.mp hb).1
    have l := p.2.2
    have z : (b.1.2.1 - a.1.2.1) % c = 0 := by
      rw [Int.sub_emod, q, Int.sub_self, Int.zero_emod]
    rw [Int.emod_eq_of_lt (by omega) (by omega)] at z
    omega
  · obtain ⟨q, hq, rfl⟩ := List.mem_map.mp h
    obtain ⟨h1, h2⟩ := List.mem_filter.mp hq
    have h2 := of_decide_eq_true h2
    obtain ⟨g1, g2, g3⟩ := prs_G ok h1
    have go := (prs_goes ok _ h1).1
    have f1 := F_last ok g1
    have f2 := F_next ok (x := q.1.2.1 + 1) g2 (by omega) (fun z w a b => g3 z w (by omega) b)
    have ge : Pm.GE (Pm.F c Z) q.1.2.1 := by unfold Pm.GE; rw [f1, f2]; exact h2
    refine ⟨Int.emod_nonneg _ (by omega), Int.emod_lt_of_pos _ (by omega), ?_⟩
    have := Pm.GE.per ok.mono _ (-(q.1.2.1 / c)) ge
    have e := Int.emod_add_mul_ediv q.1.2.1 c
    rw [Int.neg_mul, Int.mul_comm (q.1.2.1 / c), show q.1.2.1 + -(c * (q.1.2.1 / c)) = q.1.2.1 % c by omega] at this
    exact this
  · have h2 : Pm.F c Z x + 1 < Pm.F c Z (x + 1) := h2
    obtain ⟨q, hq, k, k1, k2, k3⟩ := gap_in ok (gap_atC ok (s := x + 1) (by rw [show x + 1 - 1 = x by omega]; exact h2))
    rw [show x + 1 - 1 = x by omega] at k1
    obtain ⟨y, hy⟩ := (F_grows ok x).mpr (by omega)
    have ey := F_last ok hy
    have gk := Pm.G_move k (prs_G ok hq).1
    have ex : x = q.1.2.1 + k * c := by
      rcases Int.lt_trichotomy x (q.1.2.1 + k * c) with z | z | z
      · have := G_lt ok hy gk z; omega
      · exact z
      · have := G_lt ok gk hy z; omega
    refine List.mem_map.mpr ⟨q, List.mem_filter.mpr ⟨hq, decide_eq_true k3⟩, ?_⟩
    show q.1.2.1 % c = x
    have : q.1.2.1 % c = x % c := by rw [ex, Int.add_mul_emod_self_right]
    rw [this, Int.emod_eq_of_lt h0 h1]
theorem filt_or {α : Type} (p g : α → Bool) : ∀ l : List α, (∀ x ∈ l, p x = true ∨ g x = true) → l.length ≤ (l.filter p).length + (l.filter g).length
  | [], _ => Nat.zero_le _
  | a :: l, h => by
    have ih := filt_or p g l fun x hx => h x (List.mem_cons_of_mem _ hx)
    rw [List.filter_cons, List.filter_cons]
    rcases h a List.mem_cons_self with e | e <;> rw [if_pos e] <;> split <;> simp only [List.length_cons] <;> omega
theorem runs_le {c : Int} {Z : List Rn} (can : Pm.Can c Z) : Z.length ≤ (pltL c Z).length + (gapL c Z).length + 1 := by
  have ok := can.1
  rcases can.2 with ⟨y, rfl⟩ | ⟨rg, nj⟩
  · show 1 ≤ _; omega
  · have lz : (prs c Z).length = Z.length := by
      unfold prs
      have := List.length_pos_iff.mpr ok.ne
      rw [List.length_zip, List.length_cons, List.length_dropLast]
      omega
    have := filt_or (fun q : Rn × Rn => decide (q.1.2.1 + 1 < q.2.1)) (fun q => decide (Pm.la q.1 + 1 < q.2.2.2)) (prs c Z) fun q hq => by
      have go := prs_goes ok q hq
      have gq := (prs_G ok hq).1
      have m := (prs_mem ok.ne q hq).1
      by_cases e : q.1.2.1 + 1 < q.2.1
      · exact .inl (decide_eq_true e)
      · refine .inr (decide_eq_true (Decidable.byContradiction fun n => (nj q.2 m).1 ?_))
        have g1 := go.1
        have g2 := go.2
        rw [show q.2.1 - 1 = q.1.2.1 by omega, show q.2.2.2 - 1 = Pm.la q.1 by omega]
        exact gq
    unfold pltL gapL
    rw [List.length_map, List.length_map]
    omega
end Gr

set_option Elab.async false
set_option linter.all false
set_option maxRecDepth 100000
set_option maxHeartbeats 4000000
/-! xs[lo::2] of a list. -/
namespace Gr
open PySem PySem.Spec PyProof.Rows L2 HT
/-- every second item, the first too -/
def ev2 {α : Type} : List α → List α
  | [] => []
  | [a] => [a]
  | a :: _ :: r => a :: ev2 r
theorem ev2_len {α : Type} : ∀ l : List α, (ev2 l).length = (l.length + 1) / 2
  | [] => by simp [ev2]
  | [a] => by simp [ev2]
  | a :: b :: r => by
    show (ev2 r).length + 1 = (r.length + 1 + 1 + 1) / 2
    rw [ev2_len r]; omega
theorem ev2_at {α : Type} : ∀ (l : List α) (i : Nat), (ev2 l)[i]? = l[2 * i]?
  | [], i => by simp [ev2]
  | [a], 0 => rfl
  | [a], i + 1 => by simp [ev2]
  | a :: b :: r, 0 => rfl
  | a :: b :: r, i + 1 => by
    show (a :: ev2 r)[i + 1]? = _
    rw [List.getElem?_cons_succ, ev2_at r i, show 2 * (i + 1) = 2 * i + 1 + 1 by omega, List.getElem?_cons_succ, List.getElem?_cons_succ]
theorem ev2_pick {α : Type} (xs : Array α) : ∀ (l : List α) (a : Nat), xs.toList.drop a = l → ((List.range ((l.length + 1) / 2)).map fun (k : Nat) => a + 2 * k).filterMap (xs[·]?) = ev2 l
  | [], a, _ => by simp [ev2]
  | [x], a, h => by
    have e : xs[a]? = some x := by
      have := congrArg (fun l => l[0]?) h
      simpa [List.getElem?_drop] using this
    have l1 : ([x].length + 1) / 2 = 1 := by simp
    rw [l1]
    simp [e, ev2]
  | x :: y :: r, a, h => by
    have e : xs[a]? = some x := by
      have := congrArg (fun l => l[0]?) h
      simpa [List.getElem?_drop] using this
    have h2 : xs.toList.drop (a + 2) = r := by
      rw [← List.drop_drop, h]; rfl
    have ih := ev2_pick xs r (a + 2) h2
    have ln : ((x :: y :: r).length + 1) / 2 = (r.length + 1) / 2 + 1 := by simp only [List.length_cons]; omega
    rw [ln, List.range_succ_eq_map, List.map_cons, List.map_map, List.filterMap_cons]
    show (match xs[a + 2 * 0]? with | none => _ | some b => _) = _
    rw [Nat.mul_zero, Nat.add_zero, e]
    show x :: _ = x :: ev2 r
    rw [← ih]
    congr 2
    apply List.map_congr_left
    intro k _
    show a + 2 * (k + 1) = a + 2 + 2 * k
    omega
theorem pick_two (its : List Value) (lo : Option Int) : slicePick its.toArray lo none (some 2) = (ev2 (its.drop (HT.sIx its.length 0 lo))).toArray := by
  obtain ⟨h1, h2, h3⟩ := slice_bounds lo none its.toArray.size
  have b1 : (sliceBounds lo none (some 2) its.toArray.size).1 = (sliceBounds lo none none its.toArray.size).1 := by cases lo <;> simp [sliceBounds]
  have b2 : (sliceBounds lo none (some 2) its.toArray.size).2.1 = (sliceBounds lo none none its.toArray.size).2.1 := by simp [sliceBounds]
  have b3 : (sliceBounds lo none (some 2) its.toArray.size).2.2 = 2 := rfl
  unfold slicePick
  rw [b1, b2, b3, h1, h2]
  congr 1
  have le := HT.sIx_le its.length 0 (Nat.zero_le _) lo
  have := ev2_pick its.toArray (its.drop (HT.sIx its.length 0 lo)) (HT.sIx its.length 0 lo) rfl
  rw [← this, List.length_drop]
  congr 1
  unfold sliceRange
  rw [if_pos (by decide)]
  have en : HT.sIx its.length its.length none = its.length := rfl
  simp only [List.size_toArray, en]
  by_cases h : ((HT.sIx its.length 0 lo : Nat) : Int) < (its.length : Int)
  · rw [if_pos h]
    have e : (((its.length : Int) - (HT.sIx its.length 0 lo : Nat) + 2 - 1) / 2).toNat = (its.length - HT.sIx its.length 0 lo + 1) / 2 := by omega
    rw [e]
    apply List.map_congr_left
    intro k _
    omega
  · rw [if_neg h]
    have e : (its.length - HT.sIx its.length 0 lo + 1) / 2 = 0 := by omega
    rw [e]; rfl
def tSl2 (K : PySem.W.Frag) (te : TE) (tl : TO) : TE := fun σ H Q => te σ H fun x H1 => tl σ H1 fun l H2 => ∃ a xs, x = .ref a ∧ SqL K H2 a xs ∧ ∀ p, H2 p = none → Q (.ref p) (upd H2 p (.lst (ev2 (xs.drop (HT.sIx xs.length 0 l)))))
theorem ev2P {α β : Type} {R : α → β → Prop} : ∀ {xs : List α} {ys : List β}, Paired R xs ys → Paired R (ev2 xs) (ev2 ys)
  | _, _, .nil => .nil
  | _, _, .cons a .nil => .cons a .nil
  | _, _, .cons a (.cons _ t) => .cons a (ev2P t)
section
variable {X : Cx}
theorem pe_sl2 {e : Expr} {lo : Option Expr} {te : TE} {tl : TO} {k : Nat} {p1 p3 pos : Pos} (he : PE X e te) (hl : PO X lo tl) : PE X (.Subscript e (.Slice lo none (some (.Constant (.int 2) k p1)) p3) pos) (tSl2 X.K te tl) where
  run := by
    intro pins s σ H Q I h
    apply Subscript_
    refine thn (he.run pins s σ H _ I h) ?_
    rintro v s1 ⟨x, H1, I1, r1, q1⟩
    have step : PO X (some (.Constant (.int 2) k p1)) (tPart (tC (.int 2))) := po_some pe_int
    apply wpAny_Slice
    refine thn (hl.run pins s1 σ H1 _ I1 q1) ?_
    rintro vl s2 ⟨l, H2, I2, pl, a, xs, rfl, hx, q⟩
    refine thn (po_none.run pins s2 σ H2 (fun o G => o = none ∧ G = H2) I2 ⟨rfl, rfl⟩) ?_
    rintro vu s3 ⟨_, G3, I3, pu, rfl, g3⟩
    rw [g3] at I3
    refine thn (step.run pins s3 σ H2 (fun o G => o = some 2 ∧ G = H2) I3 ⟨2, rfl, rfl, rfl⟩) ?_
    rintro vs s4 ⟨_, G4, I4, ps, rfl, g4⟩
    rw [g4] at I4
    cases r1
    have I5 : Inv X pins σ H2 { s4 with heap := s4.heap.push { cls := .type "slice", data := .fields #[vl, vu, vs] } } := I4.kept (t' := s4.toks) fun b ob q => Heap.get?_push_of_some _ q
    obtain ⟨its, r, ht, hz⟩ := I5.list hx
    have hlen := r.length
    show wpAny (model X.prog X.w) X.A (subscriptTail e (.Slice lo none (some (.Constant (.int 2) k p1)) p3) (.ref a) (.ref s4.heap.objs.size)) (EP X pins σ Q) X.xe { s4 with heap := s4.heap.push { cls := .type "slice", data := .fields #[vl, vu, vs] } }
    refine tail_any (ops := [.ref a, .ref s4.heap.objs.size]) ht.isList.typeIs slot_list_getitem.lookup ?_ (by with_unfolding_all rfl)
    refine wpAny_getItem_list_slice ht.isList (Heap.IsSliceOf.new _ vl vu vs) pl pu ps (by simp) ?_ (by rw [List.size_toArray] <;> omega)
    rw [pick_two, ← hlen]
    refine ⟨.ref _, _, I5.laid (t' := s4.toks) (o := .lst (ev2 (xs.drop (HT.sIx xs.length 0 l)))) (fun b ob q => Heap.get?_push_of_some _ q) (Nat.le_refl _) ?_, rfl, q _ (I5.hok.fresh (Nat.le_refl _))⟩
    refine ⟨?_, _, 0, ev2P (r.drop (HT.sIx xs.length 0 l)), Heap.get?_push_size _ rfl⟩
    rw [ev2_len, List.length_drop]
    omega
end
end Gr

set_option Elab.async false
set_option linter.all false
set_option maxRecDepth 100000
set_option maxHeartbeats 4000000
/-! A list put together two by two. -/
namespace Gr
open Pm (Rn)
/-- platoons and gaps of one cycle -/
noncomputable def mz (c : Int) (Z : List Rn) : Nat := Pm.cnt c (Pm.PE (Pm.F c Z)) + Pm.cnt c (Pm.GE (Pm.F c Z))
def IsMin (v : Int) (l : List Int) : Prop := v ∈ l ∧ ∀ y ∈ l, v ≤ y
inductive Half (c : Int) : List (List Rn) → List (List Rn) → Prop
  | nil : Half c [] []
  | one (Z : List Rn) : Half c [Z] [Z]
  | two {A B R : List Rn} {r s : List (List Rn)} : (∀ x, Pm.F c R x = Pm.mn (Pm.F c A x) (Pm.F c B x)) → mz c R ≤ mz c A + mz c B → Half c r s → Half c (A :: B :: r) (R :: s)
theorem Half.len {c : Int} {l s : List (List Rn)} (h : Half c l s) : s.length = (l.length + 1) / 2 := by
  induction h with
  | nil => rfl
  | one => simp
  | two _ _ _ ih => simp only [List.length_cons, ih]; omega
theorem Half.sum {c : Int} {l s : List (List Rn)} (h : Half c l s) : (s.map (mz c)).sum ≤ (l.map (mz c)).sum := by
  induction h with
  | nil => exact Nat.le_refl _
  | one => exact Nat.le_refl _
  | two _ k _ ih => simp only [List.map_cons, List.sum_cons]; omega
theorem Half.min {c : Int} {l s : List (List Rn)} (h : Half c l s) (x v : Int) : IsMin v (s.map fun Z => Pm.F c Z x) → IsMin v (l.map fun Z => Pm.F c Z x) := by
  have key : (∀ v, v ∈ (s.map fun Z => Pm.F c Z x) → v ∈ (l.map fun Z => Pm.F c Z x)) ∧ ∀ v, (∀ y ∈ (s.map fun Z => Pm.F c Z x), v ≤ y) → ∀ y ∈ (l.map fun Z => Pm.F c Z x), v ≤ y := by
    induction h with
    | nil => exact ⟨fun _ h => h, fun _ h => h⟩
    | one => exact ⟨fun _ h => h, fun _ h => h⟩
    | @two A B R r s e _ _ ih =>
      have ex := e x
      unfold Pm.mn at ex
      refine ⟨fun v hv => ?_, fun v hv y hy => ?_⟩
      · rw [List.map_cons] at hv
        rw [List.map_cons, List.map_cons]
        rcases List.mem_cons.mp hv with k | k
        · rw [k]
          by_cases g : Pm.F c A x ≤ Pm.F c B x
          · have : Pm.F c R x = Pm.F c A x := by rw [ex]; split <;> omega
            rw [this]; simp
          · have : Pm.F c R x = Pm.F c B x := by rw [ex]; split <;> omega
            rw [this]; simp
        · exact List.mem_cons_of_mem _ (List.mem_cons_of_mem _ (ih.1 v k))
      · have h1 := hv (Pm.F c R x) (by simp)
        have h2 : ∀ y ∈ (s.map fun Z => Pm.F c Z x), v ≤ y := fun y hy => hv y (by rw [List.map_cons]; exact List.mem_cons_of_mem _ hy)
        rw [List.map_cons, List.map_cons] at hy
        rcases List.mem_cons.mp hy with k | k
        · rw [k]; rw [ex] at h1; split at h1 <;> omega
        · rcases List.mem_cons.mp k with k | k
          · rw [k]; rw [ex] at h1; split at h1 <;> omega
          · exact ih.2 v h2 y k
  exact fun ⟨a, b⟩ => ⟨key.1 v a, key.2 v b⟩
theorem half_of {c : Int} : ∀ (Zs Rs : List (List Rn)), Rs.length = Zs.length / 2 → (∀ (i : Nat) (A B R : List Rn), Zs[2 * i]? = some A → Zs[2 * i + 1]? = some B → Rs[i]? = some R → (∀ x, Pm.F c R x = Pm.mn (Pm.F c A x) (Pm.F c B x)) ∧ mz c R ≤ mz c A + mz c B) → Half c Zs (Rs ++ Zs.drop (2 * Rs.length))
  | [], [], _, _ => .nil
  | [], _ :: _, h, _ => by simp at h
  | [Z], [], _, _ => .one Z
  | [Z], _ :: _, h, _ => by simp at h
  | A :: B :: r, [], h, _ => by simp only [List.length_cons, List.length_nil] at h; omega
  | A :: B :: r, R :: s, h, g => by
    have g0 := g 0 A B R rfl rfl rfl
    have ih := half_of (c := c) r s (by simp only [List.length_cons] at h; omega) fun i A' B' R' h1 h2 h3 => g (i + 1) A' B' R' (by rw [show 2 * (i + 1) = 2 * i + 1 + 1 by omega]; simpa using h1) (by rw [show 2 * (i + 1) + 1 = 2 * i + 1 + 1 + 1 by omega]; simpa using h2) (by simpa using h3)
    have e : 2 * (R :: s).length = 2 * s.length + 1 + 1 := by simp only [List.length_cons]; omega
    rw [e]
    exact .two g0.1 g0.2 ih
end Gr

set_option Elab.async false
set_option linter.all false
namespace Gr
open PySem PySem.Spec PyProof.Rows L2
/-- a text that stands at the top -/
theorem pe_globS {X : Cx} {x z : Str} {pos : Pos} (hg : Gl X x) (hm : ∃ t, X.mg x = some (.str z t)) (hd : (x == ("__debug__" : Str)) = false := by decide) : PE X (.Name x pos) (tC (.str z)) := by
  obtain ⟨t, h⟩ := hm
  exact pe_glob hg h ⟨t, rfl⟩ hd
end Gr

set_option Elab.async false
set_option linter.all false
set_option pp.deepTerms false
set_option pp.maxSteps 3000
set_option maxRecDepth 100000
set_option maxHeartbeats 8000000
set_option exponentiation.threshold 3000
namespace Gr
open PySem PySem.Spec PyProof.Rows L2
open Pm (Rn)
def spPutT (C : Addr) : Sp := fun vs H Q _ => ∃ (p p' : Addr) (c M M' : Int) (Z Z' : List Rn), vs = [.str "{", .ref p, .ref p'] ∧ PasAt C H p c M Z ∧ PasAt C H p' c M' Z' ∧ Z.length + Z'.length ≤ 1900 ∧ M ≤ 10 ^ 190 ∧ M' ≤ 10 ^ 190 ∧
  ∀ x H' Zl, Same H H' → PasAt C H' x c (2 * (M + M' + 10 * c) + c) Zl → (∀ t, Pm.F c Zl t = Pm.mn (Pm.F c Z t) (Pm.F c Z' t)) → Q (.ref x) H'
def PsAt (C : Addr) (c M : Int) (H : Hp) (x : V) (Z : List Rn) : Prop := ∃ p, x = .ref p ∧ PasAt C H p c M Z
def spAll (C : Addr) : Sp := fun vs H Q _ => ∃ (L : Addr) (c M : Int) (xs : List V) (Zs : List (List Rn)), vs = [.str "{", .ref L] ∧ H L = some (.lst xs) ∧ Paired (PsAt C c M H) xs Zs ∧ Zs ≠ [] ∧ Zs.length ≤ 1024 ∧ (Zs.map (mz c)).sum ≤ 1800 ∧ 1 ≤ c ∧ c ≤ 10 ^ 30 ∧ 0 ≤ M ∧ M ≤ 10 ^ 60 ∧
  ∀ p H' Z, Same H H' → PasAt C H' p c (10 ^ 80) Z → (∀ x, IsMin (Pm.F c Z x) (Zs.map fun Z => Pm.F c Z x)) → mz c Z ≤ (Zs.map (mz c)).sum → Q (.ref p) H'
section
variable {P : Program} {w : World} {K : PySem.W.Frag} {mg : Str → Option Value} {base : Heap} {tC : Tok}
theorem ok_put {C fI fC f f1 f2 f3 : Addr} {fd fd1 fd2 fd3 : FuncData} (B : Blt mg tC) (TP : TxtP K mg C fI fC) (Dput_together : Def K mg "put_together" s_put_together ["way", "one", "other"] f fd) (DP_or : DefM K "__or__" "Passage.__or__" s_P_or ["self", "other"] f1 fd1) (DP_and : DefM K "__and__" "Passage.__and__" s_P_and ["self", "other"] f2 fd2) (DP_add : DefM K "__add__" "Passage.__add__" s_P_add ["self", "other"] f3 fd3)
    (MP_add : Meth K C "__add__" f3) (MP_or : Meth K C "__or__" f1) (MP_and : Meth K C "__and__" f2)
    (GP_add : FnOk P w K mg base CX0 6 f3 fd3 ["self", "other"] (spOp C opAdd mostAdd okAdd)) (GP_or : FnOk P w K mg base CX0 6 f1 fd1 ["self", "other"] (spOp C opOr mostPut okPut)) (GP_and : FnOk P w K mg base CX0 6 f2 fd2 ["self", "other"] (spOp C opAnd mostPut okPut))
    (SF : PySem.W.selfFirst K C = true) : FnOk P w K mg base CX0 7 f fd ["way", "one", "other"] (spPutT C) := by
  refine Dput_together.F.ok scput_together (fun vs H Q E h => ?_) (fun cdv A outer s H vs Q E hr h => ⟨_, (pss_cons (ps_if (pt_cmpR op_eq (pv 0) (pe_globS (z := "{") (by rfl) B.SOONER) (nomark _))
   (pss_one (ps_ret (pe_op (op_binP (op := .BitOr) (by rfl) MP_or GP_or DP_or.b SF (hr.mono (by decide)) pass0) (pv 1) (pv 2))))
   pss_nil)
  (pss_cons (ps_if (pt_cmpR op_eq (pv 0) (pe_globS (z := "<") (by rfl) B.BOTH) (nomark _))
   (pss_one (ps_ret (pe_op (op_binP (op := .BitAnd) (by rfl) MP_and GP_and DP_and.b SF (hr.mono (by decide)) pass0) (pv 1) (pv 2))))
   pss_nil)
  (pss_one (ps_ret (pe_op (op_binP (op := .Add) (by rfl) MP_add GP_add DP_add.b SF (hr.mono (by decide)) pass0) (pv 1) (pv 2)))))), ?_⟩)
  · obtain ⟨p, p', c, M, M', Z, Z', rfl, _⟩ := h; rfl
  · obtain ⟨p, p', c, M, M', Z, Z', rfl, hP, hP', len, m1, m2, q⟩ := h
    obtain ⟨dx, a, ho, _⟩ := hP.ob
    obtain ⟨dy, b, ho', _⟩ := hP'.ob
    have z190 : M ≤ 10 ^ 190 ∧ M' ≤ 10 ^ 190 := ⟨m1, m2⟩
    refine ⟨_, rfl, rfl, true, congrArg V.bl (by simp), iteT ?_⟩
    refine ⟨_, rfl, _, rfl, p, p', dx, dy, _, _, rfl, rfl, ho, ho', p, p', c, M, M', Z, Z', rfl, hP, hP', len, m1, m2, fun x H' Zl s hx hF _ => ?_⟩
    exact q x H' Zl s hx hF
theorem paired_dropT {α β : Type} {R : α → β → Prop} {xs : List α} {ys : List β} (h : Paired R xs ys) : ∀ k : Nat, Paired R (xs.drop k) (ys.drop k) := by
  induction h with
  | nil => intro k; rw [List.drop_nil, List.drop_nil]; exact .nil
  | cons a t ih =>
    intro k
    cases k with
    | zero => exact .cons a t
    | succ k => exact ih k
theorem paired_appT {α β : Type} {R : α → β → Prop} {xs us : List α} {ys ws : List β} (h : Paired R xs ys) (g : Paired R us ws) : Paired R (xs ++ us) (ys ++ ws) := by
  induction h with
  | nil => exact g
  | cons a t ih => exact .cons a ih
theorem two_sum : ∀ {l : List Nat} {i a b : Nat}, l[i]? = some a → l[i + 1]? = some b → a + b ≤ l.sum
  | [], _, _, _, h, _ => by simp at h
  | [x], 0, _, _, _, k => by simp at k
  | x :: y :: l, 0, a, b, h, k => by
    obtain rfl : x = a := by simpa using h
    obtain rfl : y = b := by simpa using k
    simp only [List.sum_cons]; omega
  | x :: l, i + 1, a, b, h, k => by
    have := two_sum (l := l) (i := i) (by simpa using h) (by simpa using k)
    simp only [List.sum_cons]; omega
theorem mz_len {c : Int} {Z : List Rn} (can : Pm.Can c Z) : Z.length ≤ mz c Z + 1 := by
  have := runs_le can
  rw [plt_cnt can, gap_cnt can] at this
  exact this
theorem ok_all {C fI fC f f1 : Addr} {fd fd1 : FuncData} (B : Blt mg tC) (TP : TxtP K mg C fI fC) (Dall_together : Def K mg "all_together" s_all_together ["way", "passages"] f fd) (Dput_together : Def K mg "put_together" s_put_together ["way", "one", "other"] f1 fd1) (Gput_together : FnOk P w K mg base CX0 7 f1 fd1 ["way", "one", "other"] (spPutT C)) : FnOk P w K mg base CX0 8 f fd ["way", "passages"] (spAll C) := by
  refine Dall_together.F.ok scall_together (fun vs H Q E h => ?_) (fun cdv A outer s H vs Q E hr h => ⟨_, (pss_cons (ps_while PassesOwn.never (pt_cmpR op_gt (pe_callB call_len_seq (by rfl) B.len PySem.boot_len (pa_cons (pv 1) pa_nil)) pe_int (nomark _))
   (pss_cons (ps_setLc (i := 2) (own := [("one", 3), ("other", 4)]) (g := (gTup K 2 (gCons (gName 3) (gCons (gName 4) gNil)))) (tt := tYes) rfl scall_together.nd rfl rfl (sw_true rfl rfl rfl (by decide +kernel)) (pi_zip (by rfl) B.n_zip (pa_cons (pe_sl2 (pv 1) po_none) (pa_cons (pe_sl2 (pv 1) (po_some pe_int)) pa_nil))) (blkOk_by (N := ["way", "passages", "pairs", "one", "other"]) (sc := defScope s_all_together) (by decide +kernel)) (fun _ _ _ _ _ => (pg_tup rfl (pgs_cons (pg_name (i := 3) scall_together.nd rfl (Or.inl rfl)) (pgs_cons (pg_name (i := 4) scall_together.nd rfl (Or.inl rfl)) pgs_nil)))) (fun _ _ _ _ _ => pts_nil) (fun _ _ _ _ _ => (pe_call Gput_together (hr.mono (by decide)) (by rfl) Dput_together.g Dput_together.F.kp Dput_together.b .nil pass0 (pa_cons (pv 0) (pa_cons (pv 3) (pa_cons (pv 4) pa_nil))))))
  (pss_one (ps_set (i := 1) scall_together.nd rfl (Or.inl rfl) (pe_op op_cat (pv 2) (pe_slice sl_list (pv 1) (po_some (pe_op op_mulW pe_int (pe_callB call_len_seq (by rfl) B.len PySem.boot_len (pa_cons (pv 2) pa_nil)))) po_none))))))
  (pss_one (ps_ret (pe_ix ix_list (pv 1) pe_int (fun _ _ => rfl))))), ?_⟩)
  · obtain ⟨L, c, M, xs, Zs, rfl, _⟩ := h; rfl
  · obtain ⟨L, c, M, xs, Zs, rfl, hL, hX, ne, len, sm, c1, c30, m0, m60, q⟩ := h
    refine ⟨fun m σ H' => ∃ (k : Nat) (L' : Addr) (y2 : Option V) (M' : Int) (xs' : List V) (Zs' : List (List Rn)), m = xs'.length ∧ σ = [some (.str "{"), some (.ref L'), y2, none, none] ∧ Same H H' ∧ H' L' = some (.lst xs') ∧ Paired (PsAt C c M' H') xs' Zs' ∧ Zs' ≠ [] ∧ Zs'.length ≤ 1024 ∧ (Zs'.length - 1) * 2 ^ k ≤ 1023 ∧ k ≤ 10 ∧ c ≤ M' ∧ M' ≤ 25 ^ k * (10 ^ 60 + 10 ^ 30) ∧ (Zs'.map (mz c)).sum ≤ (Zs.map (mz c)).sum ∧ (∀ x v, IsMin v (Zs'.map fun Z => Pm.F c Z x) → IsMin v (Zs.map fun Z => Pm.F c Z x)),
      ⟨_, 0, L, none, M + c, xs, Zs, rfl, rfl, Same.refl H, hL, L2.Paired.mapP hX fun _ _ ⟨p, e, h⟩ => ⟨p, e, h.up (by omega)⟩, ne, len, by rw [Nat.pow_zero, Nat.mul_one]; omega, by omega, by omega, by rw [Int.pow_zero, Int.one_mul]; omega, Nat.le_refl _, fun _ _ h => h⟩, ?_⟩
    rintro m σ H1 ⟨k, L', y2, M', xs', Zs', rfl, rfl, s1, hL', hX', ne', len', kl, k10', cM, mB, sm', mn'⟩
    have lx := paired_len hX'
    refine ⟨_, rfl, L', _, rfl, .inl (SqL.of hL'), _, _, rfl, rfl, _, rfl, ?_⟩
    by_cases g : (1 : Int) < (xs'.length : Int)
    · refine iteY g ?_
      have l2 : 2 ≤ Zs'.length := by omega
      have k9 : k ≤ 9 := by
        rcases Nat.lt_or_ge k 10 with h | h
        · omega
        · have h1 : 2 ^ 10 ≤ 2 ^ k := Nat.pow_le_pow_right (by decide) h
          have h2 : 1 * 2 ^ k ≤ (Zs'.length - 1) * 2 ^ k := Nat.mul_le_mul_right _ (by omega)
          have h3 : 2 ^ 10 = 1024 := by decide
          omega
      have p25 : (25 : Int) ^ k * (10 ^ 60 + 10 ^ 30) ≤ 25 ^ 9 * (10 ^ 60 + 10 ^ 30) := by
        have e : ((25 : Int) ^ k) = ((25 ^ k : Nat) : Int) := by push_cast; rfl
        have h1 : (25 : Nat) ^ k ≤ 25 ^ 9 := Nat.pow_le_pow_right (by decide) k9
        have h2 : ((25 ^ k : Nat) : Int) ≤ ((25 ^ 9 : Nat) : Int) := Int.ofNat_le.mpr h1
        rw [e]
        exact Int.mul_le_mul_of_nonneg_right h2 (by decide +kernel)
      have M190 : M' ≤ 10 ^ 190 := by
        have : (25 : Int) ^ 9 * (10 ^ 60 + 10 ^ 30) ≤ 10 ^ 190 := by decide +kernel
        omega
      refine ⟨fun σ' H2 => ∃ m', m' < xs'.length ∧ ∃ (k : Nat) (L' : Addr) (y2 : Option V) (M' : Int) (xs' : List V) (Zs' : List (List Rn)), m' = xs'.length ∧ σ' = [some (.str "{"), some (.ref L'), y2, none, none] ∧ Same H H2 ∧ H2 L' = some (.lst xs') ∧ Paired (PsAt C c M' H2) xs' Zs' ∧ Zs' ≠ [] ∧ Zs'.length ≤ 1024 ∧ (Zs'.length - 1) * 2 ^ k ≤ 1023 ∧ k ≤ 10 ∧ c ≤ M' ∧ M' ≤ 25 ^ k * (10 ^ 60 + 10 ^ 30) ∧ (Zs'.map (mz c)).sum ≤ (Zs.map (mz c)).sum ∧ (∀ x v, IsMin v (Zs'.map fun Z => Pm.F c Z x) → IsMin v (Zs.map fun Z => Pm.F c Z x)), fun _ _ h => h, ?_⟩
      refine ⟨_, rfl, L', xs', rfl, SqL.of hL', fun S1 hS1 => ⟨_, rfl, 1, rfl, L', xs', rfl, SqL.of (Same.new hS1 _ _ hL'), fun S2 hS2 => ⟨S1, S2, _, _, rfl, SqL.of (Same.new hS2 _ _ upd_same), SqL.of upd_same, fun D hD => ?_⟩⟩⟩
      have e0 : HT.sIx xs'.length 0 none = 0 := rfl
      have e1 : HT.sIx xs'.length 0 (some 1) = 1 := by
        have := HT.sIx_nat xs'.length 0 1
        rw [show ((1 : Nat) : Int) = 1 from rfl] at this
        rw [this]; omega
      have sS := (Same.new hS1 (o := .lst (ev2 (xs'.drop (HT.sIx xs'.length 0 none))))).trans (Same.new hS2 (o := .lst (ev2 (xs'.drop (HT.sIx xs'.length 0 (some 1))))))
      have eS1 : (upd (upd H1 S1 (.lst (ev2 (xs'.drop (HT.sIx xs'.length 0 none))))) S2 (.lst (ev2 (xs'.drop (HT.sIx xs'.length 0 (some 1)))))) S1 = some (.lst (ev2 (xs'.drop 0))) := Same.new hS2 _ _ upd_same
      have eS2 : (upd (upd H1 S1 (.lst (ev2 (xs'.drop (HT.sIx xs'.length 0 none))))) S2 (.lst (ev2 (xs'.drop (HT.sIx xs'.length 0 (some 1)))))) S2 = some (.lst (ev2 (xs'.drop 1))) := by rw [upd_same, e1]
      generalize upd (upd H1 S1 (.lst (ev2 (xs'.drop (HT.sIx xs'.length 0 none))))) S2 (.lst (ev2 (xs'.drop (HT.sIx xs'.length 0 (some 1))))) = H2 at sS eS1 eS2 hD ⊢
      have hX2 : Paired (PsAt C c M' H2) xs' Zs' := L2.Paired.mapP hX' fun _ _ ⟨p, e, h⟩ => ⟨p, e, h.mono sS⟩
      have hn : xs'.length / 2 = min (ev2 (xs'.drop 0)).length (ev2 (xs'.drop 1)).length := by
        rw [ev2_len, ev2_len, List.length_drop, List.length_drop]; omega
      refine lc_it (walk_zip (xs := ev2 (xs'.drop 0)) (ys := ev2 (xs'.drop 1)) hn) (fun i H' => Same H2 H' ∧ ∃ acc Rs, H' D = some (.lst acc) ∧ Paired (PsAt C c (25 * M') H') acc Rs ∧ Rs.length = i ∧ ∀ (j : Nat) (A B R : List Rn), Zs'[2 * j]? = some A → Zs'[2 * j + 1]? = some B → Rs[j]? = some R → (∀ x, Pm.F c R x = Pm.mn (Pm.F c A x) (Pm.F c B x)) ∧ mz c R ≤ mz c A + mz c B)
        ⟨Same.new hD, [], [], upd_same, .nil, rfl, fun j A B R _ _ h => by simp at h⟩ (fun i H' _ ⟨s2, _⟩ => ⟨SqL.of (s2 _ _ eS1), SqL.of (s2 _ _ eS2)⟩) ?_ ?_
      · rintro i v Ha Hb hi ⟨s3, acc, Rs, eD, hA, lR, hR⟩ ⟨T, y0, y1, rfl, hT, rfl, h0, h1⟩
        replace h0 : (ev2 (xs'.drop 0))[i]? = some y0 := h0
        replace h1 : (ev2 (xs'.drop 1))[i]? = some y1 := h1
        rw [ev2_at, List.getElem?_drop] at h0 h1
        rw [Nat.zero_add] at h0
        rw [Nat.add_comm] at h1
        obtain ⟨A, hA0, p, rfl, hp⟩ := paired_at hX2 h0
        obtain ⟨B', hB0, p', rfl, hp'⟩ := paired_at hX2 h1
        have la := paired_len hA
        have sT := Same.new hT (o := .tup [.ref p, .ref p'])
        have s4 := s3.trans sT
        have eD4 := sT _ _ eD
        have hsum : mz c A + mz c B' ≤ (Zs'.map (mz c)).sum := two_sum (i := 2 * i) (by rw [List.getElem?_map, hA0]; rfl) (by rw [List.getElem?_map, hB0]; rfl)
        have lA := mz_len hp.can
        have lB := mz_len hp'.can
        refine ⟨T, _, rfl, SqT.of upd_same, rfl, _, _, rfl, _, _, rfl, rfl, rfl, ?_⟩
        refine ⟨_, rfl, _, rfl, _, rfl, p, p', c, M', M', A, B', rfl, hp.mono s4, hp'.mono s4, by omega, M190, M190, fun x H5 Zl s5 Px Fx => ?_⟩
        have eD5 := s5 _ _ eD4
        have s45 := sT.trans s5
        refine ⟨acc, eD5, smallL (by omega), same_upd (s4.trans s5) hD, acc ++ [.ref x], Rs ++ [Zl], upd_same, ?_, by rw [List.length_append, lR]; rfl, fun j A2 B2 R2 g1 g2 g3 => ?_⟩
        · refine paired_snoc (L2.Paired.mapP hA fun _ _ ⟨q, e, h⟩ => ⟨q, e, ((h.mono s45).but (But.refl D H5).at eD5)⟩) ⟨x, rfl, (Px.up (by omega)).but (But.refl D H5).at eD5⟩
        · rcases Nat.lt_or_ge j Rs.length with l | l
          · rw [List.getElem?_append_left l] at g3
            exact hR j A2 B2 R2 g1 g2 g3
          · rw [List.getElem?_append_right l] at g3
            have j0 : j - Rs.length = 0 := by
              have := (List.getElem?_eq_some_iff.mp g3).1
              simp at this; omega
            rw [j0] at g3
            obtain rfl : j = i := by omega
            cases g3
            rw [hA0] at g1
            rw [hB0] at g2
            cases g1
            cases g2
            refine ⟨Fx, ?_⟩
            have ef : Pm.F c Zl = fun t => Pm.mn (Pm.F c A t) (Pm.F c B' t) := funext Fx
            have h1 := Pm.pe_mn hp.can.1.mono hp'.can.1.mono
            have h2 := Pm.ge_mn hp.can.1.mono hp'.can.1.mono
            unfold mz
            rw [ef]
            omega
      · rintro H3 ⟨s3, acc, Rs, eD, hA, lR, hR⟩
        have la := paired_len hA
        have s13 := sS.trans s3
        have hL3 := s13 _ _ hL'
        show gName 2 (V.ref D) [some (.str "{"), some (.ref L'), y2, none, none] H3 _
        refine ⟨_, rfl, _, rfl, _, rfl, D, _, rfl, .inl (SqL.of eD), _, _, rfl, rfl, wide_mul (a := 20) (b := 20) (by decide) (by omega) (by decide) (by decide) (by decide), _, rfl, L', _, rfl, SqL.of hL3, fun S3 hS3 => ?_⟩
        have ec : cutV xs' (some (2 * (acc.length : Int))) none = xs'.drop (2 * Rs.length) := by
          rw [show 2 * (acc.length : Int) = ((2 * Rs.length : Nat) : Int) by omega]
          exact cut_lo xs' _ (by omega)
        have s4 := Same.new hS3 (o := .lst (cutV xs' (some (2 * (acc.length : Int))) none))
        refine ⟨D, S3, _, _, rfl, rfl, s4 _ _ eD, upd_same, Nat.le_of_lt (smallL (by rw [ec, List.length_drop]; omega)), fun L2' hL2 => ?_⟩
        have s5 := Same.new hL2 (o := .lst (acc ++ cutV xs' (some (2 * (acc.length : Int))) none))
        have hh := half_of (c := c) Zs' Rs (by omega) hR
        have hl := hh.len
        rw [ec] at s4 s5
        have big : 25 * M' ≤ 25 ^ (k + 1) * (10 ^ 60 + 10 ^ 30) := by
          rw [Int.pow_succ, Int.mul_comm (25 ^ k) 25, Int.mul_assoc]
          exact Int.mul_le_mul_of_nonneg_left mB (by decide)
        refine ⟨_, ?_, k + 1, L2', some (.ref D), 25 * M', _, Rs ++ Zs'.drop (2 * Rs.length), rfl, rfl, s1.trans (s13.trans ((Same.new hS3).trans (Same.new hL2))), upd_same, ?_, ?_, by omega, ?_, by omega, by omega, big, Nat.le_trans hh.sum sm', fun x v h => mn' x v (hh.min x v h)⟩
        · rw [ec, List.length_append, List.length_drop]; omega
        · rw [ec]
          have sE := (Same.new hS3 (o := .lst (cutV xs' (some (2 * (acc.length : Int))) none))).trans (Same.new hL2 (o := .lst (acc ++ cutV xs' (some (2 * (acc.length : Int))) none)))
          rw [ec] at sE
          refine paired_appT (L2.Paired.mapP hA fun _ _ ⟨q, e, h⟩ => ⟨q, e, h.mono sE⟩) (paired_dropT (L2.Paired.mapP hX2 fun _ _ ⟨q, e, h⟩ => ⟨q, e, ((h.mono s3).mono sE).up (by omega)⟩) _)
        · intro e
          rw [e] at hl
          simp at hl
          omega
        · rw [Nat.pow_succ, Nat.mul_comm (2 ^ k) 2, ← Nat.mul_assoc]
          exact Nat.le_trans (Nat.mul_le_mul_right _ (by omega)) kl
    · refine iteN g ?_
      obtain ⟨Z, rfl⟩ : ∃ Z, Zs' = [Z] := by
        match Zs', ne', lx with
        | [Z], _, _ => exact ⟨Z, rfl⟩
        | a :: b :: r, _, h => simp at h; omega
      obtain ⟨x, rfl, p, rfl, hp⟩ : ∃ x, xs' = [x] ∧ ∃ p, x = .ref p ∧ PasAt C H1 p c M' Z := by
        cases hX' with
        | cons a t =>
          cases t
          exact ⟨_, rfl, a⟩
      have k10 : M' ≤ 10 ^ 80 := by
        have e : ((25 : Int) ^ k) = ((25 ^ k : Nat) : Int) := by push_cast; rfl
        have h1 : (25 : Nat) ^ k ≤ 25 ^ 10 := Nat.pow_le_pow_right (by decide) k10'
        have h2 : ((25 ^ k : Nat) : Int) ≤ ((25 ^ 10 : Nat) : Int) := Int.ofNat_le.mpr h1
        have h3 := Int.mul_le_mul_of_nonneg_right h2 (show (0 : Int) ≤ 10 ^ 60 + 10 ^ 30 by decide +kernel)
        rw [e] at mB
        have h4 : ((25 ^ 10 : Nat) : Int) * (10 ^ 60 + 10 ^ 30) ≤ 10 ^ 80 := by decide +kernel
        omega
      refine ⟨_, rfl, L', _, _, _, rfl, rfl, SqL.of hL', atI_nat (j := 0) rfl, ?_⟩
      refine q p H1 Z s1 (hp.up k10) (fun x => mn' x _ ⟨by simp, fun y hy => by simp at hy; omega⟩) ?_
      simpa using sm'
end
end Gr

set_option Elab.async false
set_option linter.all false
set_option pp.deepTerms false
set_option pp.maxSteps 3000
set_option maxRecDepth 100000
set_option maxHeartbeats 8000000
set_option exponentiation.threshold 3000
namespace Gr
open PySem PySem.Spec PyProof.Rows L2
open Pm (Rn)
/-- a window: first, last, travel -/
def GoodW (c : Int) (w : Rn) : Prop := 0 ≤ w.1 ∧ w.1 < c ∧ w.1 ≤ w.2.1 ∧ w.2.1 < w.1 + c ∧ 0 ≤ w.2.2
def spIsWin : Sp := fun vs H Q _ => ∃ (c : Int) (x : V) (r : Rn), vs = [.int c, x] ∧ RnAt H x r ∧ GoodW c r ∧ ∀ H', Same H H' → Q (.bl true) H'
theorem ok_decT {c : Int} {rs : List Rn} (h : 1 ≤ c ∧ rs ≠ [] ∧ (∀ r ∈ rs, r.1 ≤ r.2.1) ∧ rs.Pairwise (fun b r => b.2.1 < r.1 ∧ Pm.la b < r.2.2) ∧ ∀ a ∈ rs, ∀ b ∈ rs, a.2.1 - c < b.1 ∧ Pm.la a - c < b.2.2) : Pm.Ok c rs := by
  obtain ⟨h1, h2, h3, h4, h5⟩ := h
  refine ⟨h1, h2, h3, h4, fun a ha b hb => ?_⟩
  have := h5 a ha b hb
  unfold Pm.GoesOn
  simp only [Pm.mv2, Pm.la_mv]
  omega
section
variable {P : Program} {w : World} {K : PySem.W.Frag} {mg : Str → Option Value} {base : Heap} {tC : Tok}
theorem ok_isw {f f1 : Addr} {fd fd1 : FuncData} (B : Blt mg tC) (Dis_window : Def K mg "is_window" s_is_window ["cycle", "value"] f fd) (Dis_whole : Def K mg "is_whole" s_is_whole ["value"] f1 fd1) : FnOk P w K mg base CX0 2 f fd ["cycle", "value"] spIsWin := by
  have Gis_whole := ok_is_whole (P := P) (w := w) (base := base) B Dis_whole
  refine Dis_window.F.ok scis_window (fun vs H Q E h => ?_) (fun cdv A outer s H vs Q E hr h => ⟨_, (pss_cons (ps_if (PW.pt (pw_or (pt_not (pt_val (pe_callB call_isi (by rfl) B.n_isinstance (by decide +kernel) (pa_cons (pv 1) (pa_cons (pe_bltn (v := .ty "tuple") (u := .type "tuple") (by rfl) B.n_tuple (by decide +kernel) rfl) pa_nil))))) (pw_or (pt_cmpR op_ne (pe_callB call_len_seq (by rfl) B.len PySem.boot_len (pa_cons (pv 1) pa_nil)) pe_int (nomark _)) (pw_or1 (pt_not (pt_val (pe_callB (cr_all rfl) (by rfl) B.n_all (by decide +kernel) (pa_cons (pe_lc (own := [("part", 2)]) (g := (gName 2)) (tt := tYes) rfl scis_window.nd (pi_tup (pv 1)) (blkOk_by (N := ["cycle", "value", "part", "first", "last", "travel"]) (sc := defScope s_is_window) (by decide +kernel)) (fun _ _ _ _ _ => (pg_name (i := 2) scis_window.nd rfl (Or.inl rfl))) (fun _ _ _ _ _ => pts_nil) (fun _ _ _ _ _ => (pe_call Gis_whole (hr.mono (by decide)) (by rfl) Dis_whole.g Dis_whole.F.kp Dis_whole.b .nil pass0 (pa_cons (pv 2) pa_nil)))) pa_nil))))))))
   (pss_one (ps_ret pe_bl))
   pss_nil)
  (pss_cons (ps_asg (pv 1) (pg_tup rfl (pgs_cons (pg_name (i := 3) scis_window.nd rfl (Or.inl rfl)) (pgs_cons (pg_name (i := 4) scis_window.nd rfl (Or.inl rfl)) (pgs_cons (pg_name (i := 5) scis_window.nd rfl (Or.inl rfl)) pgs_nil)))))
  (pss_one (ps_ret (pe_and (pe_chain op_le op_lt pe_int (pv 3) (pv 0)) (pe_and (pe_chain op_le op_lt (pv 3) (pv 4) (pe_op op_add (pv 3) (pv 0))) (pe_one (pe_cmpR op_ge (pv 5) pe_int (nomark _))))))))), ?_⟩)
  · obtain ⟨c, x, r, rfl, _⟩ := h; rfl
  · obtain ⟨c, x, r, rfl, ⟨a, rfl, ha⟩, ⟨g1, g2, g3, g4, g5⟩, q⟩ := h
    refine ⟨_, rfl, .ref a, .ty "tuple", .type "tuple", .type "tuple", true, rfl, .ty _, .base (.tup ha), kit_ty (by decide +kernel), _, rfl, ?_⟩
    refine ⟨_, rfl, a, _, rfl, .inr (SqT.of ha), rfl, _, rfl, ?_⟩
    refine iteNS rfl ?_
    refine ⟨_, rfl, a, rfl, ⟨_, SqT.of ha⟩, fun D hD => ?_⟩
    refine lc_tup (xs := i3 r) (fun i H' => Same H H' ∧ H' D = some (.lst ((List.replicate i true).map V.bl))) ⟨Same.new hD, upd_same⟩ (fun i H' _ ⟨s1, _⟩ => SqT.of (s1 _ _ ha)) ?_ ?_
    · rintro i x H' hx ⟨s1, e1⟩
      have hi := (List.getElem?_eq_some_iff.mp hx).1
      have h3 : (i3 r).length = 3 := rfl
      obtain ⟨n, rfl⟩ : ∃ n, x = .int n := by
        have := List.mem_of_getElem? hx
        simp only [i3, List.mem_cons, List.not_mem_nil, or_false] at this
        rcases this with e | e | e <;> exact ⟨_, e⟩
      refine ⟨rfl, _, rfl, n, rfl, _, e1, ?_, fun b' o h => ?_, ?_⟩
      · rw [List.length_map, List.length_replicate]; exact smallL (by omega)
      · rw [upd_ne (ne_of_none h hD)]; exact s1 _ _ h
      · rw [upd_same, List.replicate_succ', List.map_append]; rfl
    · rintro H' ⟨s1, e1⟩
      refine ⟨D, _, rfl, SqL.of e1, _, rfl, ?_⟩
      rw [show ((List.replicate (i3 r).length true).all id) = true by rfl]
      have ha' := s1 _ _ ha
      refine iteF ?_
      refine ⟨_, rfl, a, _, rfl, SqT.of ha', rfl, _, _, rfl, _, _, rfl, _, _, rfl, rfl, ?_⟩
      refine ⟨_, rfl, _, _, rfl, rfl, true, congrArg V.bl (decide_eq_true g1), ?_⟩
      refine iteT ⟨_, rfl, _, _, rfl, rfl, true, congrArg V.bl (decide_eq_true g2), iteT ?_⟩
      refine ⟨_, rfl, _, rfl, _, _, rfl, rfl, true, congrArg V.bl (decide_eq_true g3), iteT ?_⟩
      refine ⟨_, rfl, _, rfl, _, _, rfl, rfl, _, _, rfl, rfl, true, congrArg V.bl (decide_eq_true g4), iteT ?_⟩
      refine ⟨_, rfl, _, _, rfl, rfl, ?_⟩
      show Q (.bl (decide (0 ≤ r.2.2))) H'
      rw [decide_eq_true g5]
      exact q _ s1
theorem ok_win {c a l t : Int} (c1 : 1 ≤ c) (h1 : a ≤ l) (h2 : l < a + c) : Pm.Ok c [(a, l, a + t)] := by
  refine ok_decT ⟨c1, by simp, fun r hr => by rw [List.mem_singleton.mp hr]; exact h1, List.pairwise_singleton _ _, fun r hr s hs => ?_⟩
  rw [List.mem_singleton.mp hr, List.mem_singleton.mp hs]
  unfold Pm.la
  simp only []
  omega
/-- the passage of one window -/
def winZ (w : Rn) : List Rn := [(w.1, w.2.1, w.1 + w.2.2)]
def spFrom (C : Addr) : Sp := fun vs H Q _ => ∃ (L : Addr) (c m : Int) (xs : List V) (ws : List Rn), vs = [.int c, .ref L] ∧ H L = some (.lst xs) ∧ Paired (RnAt H) xs ws ∧ ws ≠ [] ∧ ws.length ≤ 600 ∧ 1 ≤ c ∧ c ≤ 10 ^ 30 ∧ c ≤ m ∧ m ≤ 10 ^ 50 ∧ (∀ w ∈ ws, GoodW c w ∧ w.2.2 ≤ m) ∧
  ∀ p H' Z, Same H H' → PasAt C H' p c (10 ^ 80) Z → (∀ x, IsMin (Pm.F c Z x) (ws.map fun w => Pm.F c (winZ w) x)) → Z.length ≤ 1300 → Q (.ref p) H'
theorem ok_from {C fI fC f f1 f2 f3 f4 : Addr} {fdI fd fd1 fd2 fd3 fd4 : FuncData} (B : Blt mg tC) (TP : TxtP K mg C fI fC) (Dfrom_windows : Def K mg "from_windows" s_from_windows ["cycle", "windows"] f fd) (Dcheck_cycle : Def K mg "check_cycle" s_check_cycle ["cycle"] f1 fd1) (Dis_whole : Def K mg "is_whole" s_is_whole ["value"] f2 fd2) (Dis_window : Def K mg "is_window" s_is_window ["cycle", "value"] f3 fd3) (Dall_together : Def K mg "all_together" s_all_together ["way", "passages"] f4 fd4) (DP_init : DefM K "__init__" "Passage.__init__" s_P_init ["self", "cycle", "runs"] fI fdI)
    (GP_init : FnOk P w K mg base CX0 4 fI fdI ["self", "cycle", "runs"] (spInitP C)) (Gall_together : FnOk P w K mg base CX0 8 f4 fd4 ["way", "passages"] (spAll C)) : FnOk P w K mg base CX0 9 f fd ["cycle", "windows"] (spFrom C) := by
  have Gcheck_cycle := ok_check_cycle (P := P) (w := w) (base := base) B Dcheck_cycle Dis_whole
  have Gis_window := ok_isw (P := P) (w := w) (base := base) B Dis_window Dis_whole
  refine Dfrom_windows.F.ok scfrom_windows (fun vs H Q E h => ?_) (fun cdv A outer s H vs Q E hr h => ⟨_, (pss_cons (ps_expr (pe_call Gcheck_cycle (hr.mono (by decide)) (by rfl) Dcheck_cycle.g Dcheck_cycle.F.kp Dcheck_cycle.b .nil pass0 (pa_cons (pv 0) pa_nil)))
  (pss_cons (ps_if (PW.pt (pw_or (pt_not (pt_val (pe_callB call_isi (by rfl) B.n_isinstance (by decide +kernel) (pa_cons (pv 1) (pa_cons (pe_bltn (v := .ty "list") (u := .type "list") (by rfl) B.n_list (by decide +kernel) rfl) pa_nil))))) (pw_or (pt_cmpR op_eq (pe_callB call_len_seq (by rfl) B.len PySem.boot_len (pa_cons (pv 1) pa_nil)) pe_int (nomark _)) (pw_or1 (pt_not (pt_val (pe_callB (cr_all rfl) (by rfl) B.n_all (by decide +kernel) (pa_cons (pe_lc (own := [("row", 2)]) (g := (gName 2)) (tt := tYes) rfl scfrom_windows.nd (pi_list (pv 1)) (blkOk_by (N := ["cycle", "windows", "row", "passages", "first", "last", "travel"]) (sc := defScope s_from_windows) (by decide +kernel)) (fun _ _ _ _ _ => (pg_name (i := 2) scfrom_windows.nd rfl (Or.inl rfl))) (fun _ _ _ _ _ => pts_nil) (fun _ _ _ _ _ => (pe_call Gis_window (hr.mono (by decide)) (by rfl) Dis_window.g Dis_window.F.kp Dis_window.b .nil pass0 (pa_cons (pv 0) (pa_cons (pv 2) pa_nil))))) pa_nil))))))))
   (pss_one ps_never)
   pss_nil)
  (pss_cons (ps_setLc (i := 3) (own := [("first", 4), ("last", 5), ("travel", 6)]) (g := (gTup K 3 (gCons (gName 4) (gCons (gName 5) (gCons (gName 6) gNil))))) (tt := tYes) rfl scfrom_windows.nd rfl rfl (sw_true rfl rfl rfl (by decide +kernel)) (pi_list (pv 1)) (blkOk_by (N := ["cycle", "windows", "row", "passages", "first", "last", "travel"]) (sc := defScope s_from_windows) (by decide +kernel)) (fun _ _ _ _ _ => (pg_tup rfl (pgs_cons (pg_name (i := 4) scfrom_windows.nd rfl (Or.inl rfl)) (pgs_cons (pg_name (i := 5) scfrom_windows.nd rfl (Or.inl rfl)) (pgs_cons (pg_name (i := 6) scfrom_windows.nd rfl (Or.inl rfl)) pgs_nil))))) (fun _ _ _ _ _ => pts_nil) (fun _ _ _ _ _ => (pe_make TP.mks GP_init (hr.mono (by decide)) (by rfl) TP.mgC DP_init.b .nil pass0 (pa_cons (pv 0) (pa_cons (pe_tup (pa_cons (pe_tup (pa_cons (pv 4) (pa_cons (pv 5) (pa_cons (pe_op op_add (pv 4) (pv 6)) pa_nil)))) pa_nil)) pa_nil)))))
  (pss_one (ps_ret (pe_call Gall_together (hr.mono (by decide)) (by rfl) Dall_together.g Dall_together.F.kp Dall_together.b .nil pass0 (pa_cons (pe_globS (z := "{") (by rfl) B.SOONER) (pa_cons (pv 3) pa_nil)))))))), ?_⟩)
  · obtain ⟨L, c, m, xs, ws, rfl, _⟩ := h; rfl
  · obtain ⟨L, c, m, xs, ws, rfl, hL, hX, ne, len, c1, c30, cm, m50, good, q⟩ := h
    have lx := paired_len hX
    have l0 : 1 ≤ ws.length := by
      cases ws with
      | nil => exact absurd rfl ne
      | cons _ _ => simp
    refine ⟨_, rfl, c, rfl, c1, c30, ?_⟩
    refine ⟨_, rfl, .ref L, .ty "list", .type "list", .type "list", true, rfl, .ty _, .base (.lst hL), kit_ty (by decide +kernel), _, rfl, ?_⟩
    refine ⟨_, rfl, L, _, rfl, .inl (SqL.of hL), rfl, _, rfl, ?_⟩
    refine iteN (fun e => by have := V.int.inj e; omega) ?_
    refine ⟨_, rfl, L, rfl, ⟨_, SqL.of hL⟩, fun D hD => ?_⟩
    refine lc_list (xs := xs) (fun i H' => Same H H' ∧ H' D = some (.lst ((List.replicate i true).map V.bl))) ⟨Same.new hD, upd_same⟩ (fun i H' _ ⟨s1, _⟩ => SqL.of (s1 _ _ hL)) ?_ ?_
    · rintro i x H' hx ⟨s1, e1⟩
      have hi := (List.getElem?_eq_some_iff.mp hx).1
      obtain ⟨r, hg, hr'⟩ := paired_at hX hx
      refine ⟨rfl, _, rfl, _, rfl, c, x, r, rfl, hr'.mono s1, (good r (List.mem_of_getElem? hg)).1, fun H2 s2 => ⟨_, s2 _ _ e1, ?_, fun b' o h => ?_, ?_⟩⟩
      · rw [List.length_map, List.length_replicate]; exact smallL (by omega)
      · rw [upd_ne (ne_of_none h hD)]; exact s2 _ _ (s1 _ _ h)
      · rw [upd_same, List.replicate_succ', List.map_append]; rfl
    rintro H1 ⟨s1, e1⟩
    refine ⟨D, _, rfl, SqL.of e1, _, rfl, ?_⟩
    rw [show ((List.replicate xs.length true).all id) = true by simp]
    refine iteF ?_
    have hL1 := s1 _ _ hL
    have hX1 := rns_mono s1 hX
    refine ⟨_, rfl, L, rfl, ⟨_, SqL.of hL1⟩, fun D2 hD2 => ?_⟩
    have M200 : 10 ^ 50 + (10 : Int) ^ 50 + 10 ^ 50 ≤ 10 ^ 200 ∧ 2 * (10 : Int) ^ 51 + 10 ^ 30 ≤ 10 ^ 60 ∧ 10 ^ 50 + (10 : Int) ^ 50 + 10 ^ 30 ≤ 10 ^ 51 ∧ (10 : Int) ^ 51 ≤ 10 ^ 200 := by decide +kernel
    refine lc_list (xs := xs) (fun i H' => Same H1 H' ∧ ∃ acc Zs, H' D2 = some (.lst acc) ∧ Paired (PsAt C c (10 ^ 60) H') acc Zs ∧ Zs.length = i ∧ (∀ (j : Nat) (Z : List Rn) (w : Rn), Zs[j]? = some Z → ws[j]? = some w → (∀ x, Pm.F c Z x = Pm.F c (winZ w) x) ∧ Z.length ≤ 1))
      ⟨Same.new hD2, [], [], upd_same, .nil, rfl, fun j Z w h => by simp at h⟩ (fun i H' _ ⟨s2, _⟩ => SqL.of (s2 _ _ hL1)) ?_ ?_
    · rintro i x H2 hx ⟨s2, acc, Zs, eD, hA, lZ, hZ⟩
      obtain ⟨⟨a, l, t⟩, hg, bb, rfl, hb⟩ := paired_at hX1 hx
      have hi := (List.getElem?_eq_some_iff.mp hg).1
      obtain ⟨⟨g1, g2, g3, g4, g5⟩, g6⟩ := good _ (List.mem_of_getElem? hg)
      simp only [] at g1 g2 g3 g4 g5 g6
      have la := paired_len hA
      refine ⟨bb, _, rfl, SqT.of (s2 _ _ hb), rfl, _, _, rfl, _, _, rfl, _, _, rfl, rfl, rfl, ?_⟩
      refine ⟨_, rfl, _, rfl, _, rfl, _, rfl, _, rfl, _, _, rfl, rfl, (by show 3 ≤ sizeLine; decide), fun T1 hT1 => ⟨(by show 1 ≤ sizeLine; decide), fun U1 hU1 => ?_⟩⟩
      intro x1 dx1 hx1 hdx1 nx1
      have sTU := (Same.new hT1 (o := .tup [.int a, .int l, .int (a + t)])).trans (Same.new hU1 (o := .tup [.ref T1]))
      have hz1 : (upd (upd H2 T1 (.tup [.int a, .int l, .int (a + t)])) U1 (.tup [.ref T1])) U1 = some (.tup [.ref T1]) := upd_same
      have hz2 : (upd (upd H2 T1 (.tup [.int a, .int l, .int (a + t)])) U1 (.tup [.ref T1])) T1 = some (.tup [.int a, .int l, .int (a + t)]) := Same.new hU1 _ _ upd_same
      have sM1 := same_make (C := C) hx1 hdx1
      refine ⟨x1, dx1, U1, c, 10 ^ 51, [(a, l, a + t)], rfl, upd_same, ⟨_, sM1 _ _ hz1, .cons ⟨T1, rfl, sM1 _ _ hz2⟩ .nil⟩, ok_win c1 g3 g4, c30, by simp, fun r hr => by rw [List.mem_singleton.mp hr]; simp only []; omega, M200.2.2.2, fun H4 Z kp1 P1 G1 l1 => ⟨rfl, ?_⟩⟩
      have s4 := sTU.trans (made hx1 sM1 (Same.refl _) kp1)
      have eD4 := s4 _ _ eD
      refine ⟨acc, eD4, smallL (by omega), same_upd (s2.trans s4) hD2, acc ++ [.ref x1], Zs ++ [Z], upd_same, ?_, by rw [List.length_append, lZ]; rfl, fun j Z' w' h h' => ?_⟩
      · exact paired_snoc (L2.Paired.mapP hA fun _ _ ⟨q, e, h⟩ => ⟨q, e, (h.mono s4).but (But.refl D2 H4).at eD4⟩) ⟨x1, rfl, (P1.up (by omega)).but (But.refl D2 H4).at eD4⟩
      · rcases Nat.lt_or_ge j Zs.length with g | g
        · rw [List.getElem?_append_left g] at h
          exact hZ j Z' w' h h'
        · rw [List.getElem?_append_right g] at h
          have j0 : j - Zs.length = 0 := by
            have := (List.getElem?_eq_some_iff.mp h).1
            simp at this; omega
          rw [j0] at h
          obtain rfl : j = i := by omega
          cases h
          rw [hg] at h'
          cases h'
          exact ⟨fun x => by rw [← Pm.F_congr G1]; rfl, by simpa using l1⟩
    rintro H2 ⟨s2, acc, Zs, eD, hA, lZ, hZ⟩
    have lZw : Zs.length = ws.length := by omega
    have small : ∀ Z ∈ Zs, mz c Z ≤ 2 := fun Z hZm => by
      obtain ⟨j, hj, ej⟩ := List.getElem_of_mem hZm
      have hj' : Zs[j]? = some Z := by rw [List.getElem?_eq_getElem hj, ej]
      have la := paired_len hA
      obtain ⟨x, hx⟩ : ∃ x, acc[j]? = some x := ⟨_, List.getElem?_eq_getElem (by omega)⟩
      obtain ⟨Z', hz', p, _, hp⟩ := paired_at hA hx
      rw [hj'] at hz'
      cases hz'
      have l1 := (hZ j Z _ hj' (List.getElem?_eq_getElem (show j < ws.length by omega))).2
      have pl : (prs c Z).length ≤ Z.length := by unfold prs; rw [List.length_zip]; exact Nat.min_le_right _ _
      unfold mz
      rw [← plt_cnt hp.can, ← gap_cnt hp.can]
      unfold pltL gapL
      rw [List.length_map, List.length_map]
      have f1 := List.length_filter_le (fun q : Rn × Rn => decide (q.1.2.1 + 1 < q.2.1)) (prs c Z)
      have f2 := List.length_filter_le (fun q : Rn × Rn => decide (Pm.la q.1 + 1 < q.2.2.2)) (prs c Z)
      omega
    have sm : (Zs.map (mz c)).sum ≤ 2 * Zs.length := by
      have : ∀ l : List (List Rn), (∀ Z ∈ l, mz c Z ≤ 2) → (l.map (mz c)).sum ≤ 2 * l.length := by
        intro l
        induction l with
        | nil => intro _; simp
        | cons a l ih =>
          intro h
          have h1 := h a (by simp)
          have h2 := ih fun Z hZ => h Z (List.mem_cons_of_mem _ hZ)
          simp only [List.map_cons, List.sum_cons, List.length_cons]
          omega
      exact this Zs small
    have maps : ∀ x, (Zs.map fun Z => Pm.F c Z x) = ws.map fun w => Pm.F c (winZ w) x := fun x => by
      refine List.ext_getElem? fun j => ?_
      rw [List.getElem?_map, List.getElem?_map]
      rcases Nat.lt_or_ge j Zs.length with g | g
      · have h1 := List.getElem?_eq_getElem g
        have h2 := List.getElem?_eq_getElem (show j < ws.length by omega)
        rw [h1, h2]
        exact congrArg some ((hZ j _ _ h1 h2).1 x)
      · rw [List.getElem?_eq_none g, List.getElem?_eq_none (by omega)]; rfl
    have s02 := s1.trans s2
    show gName 3 (V.ref D2) _ H2 _
    refine ⟨_, rfl, D2, c, 10 ^ 60, acc, Zs, rfl, eD, hA, fun e => by rw [e] at lZw; simp at lZw; omega, by omega, by omega, c1, c30, by decide +kernel, Int.le_refl _, fun p H' Z s3 PZ mn ms => ?_⟩
    refine q p H' Z (s02.trans s3) PZ (fun x => by rw [← maps]; exact mn x) ?_
    have := mz_len PZ.can
    omega
end
end Gr

set_option Elab.async false
set_option linter.all false
set_option maxRecDepth 100000
set_option maxHeartbeats 4000000
/-! The fewest windows of a function that grows by whole cycles: what they are, and a stack that finds them. -/
namespace Few
open Pm (Rn)
def Dn (F : Int → Int) (x : Int) : Int := F x - x
def Ls (F : Int → Int) (s : Int) : Prop := F s < F (s + 1)
/-- last starts with a duration -/
def Sd (F : Int → Int) (d s : Int) : Prop := Ls F s ∧ Dn F s = d
structure Opn (F : Int → Int) (g b0 e : Int) (w : Rn) : Prop where
  ha : Sd F w.2.2 w.1
  hl : Sd F w.2.2 w.2.1
  le : w.1 ≤ w.2.1
  b0 : b0 ≤ w.1
  lt : w.2.1 < e
  in' : ∀ x, w.1 ≤ x → x < e → Dn F x ≤ w.2.2
  no : ∀ s, w.2.1 < s → s < e → ¬ Sd F w.2.2 s
  lf : w.2.2 = g ∨ ∃ x, x < w.1 ∧ w.2.2 < Dn F x ∧ ∀ s, x ≤ s → s < w.1 → ¬ Sd F w.2.2 s
structure WinE (F : Int → Int) (e : Int) (w : Rn) : Prop where
  ha : Sd F w.2.2 w.1
  hl : Sd F w.2.2 w.2.1
  le : w.1 ≤ w.2.1
  in' : ∀ x, w.1 ≤ x → x ≤ w.2.1 → Dn F x ≤ w.2.2
  lf : ∃ x, x < w.1 ∧ w.2.2 < Dn F x ∧ ∀ s, x ≤ s → s < w.1 → ¬ Sd F w.2.2 s
  rt : ∃ y, w.2.1 < y ∧ y ≤ e ∧ w.2.2 < Dn F y ∧ ∀ s, w.2.1 < s → s ≤ y → ¬ Sd F w.2.2 s
def Win (F : Int → Int) (w : Rn) : Prop := ∃ e, WinE F e w
theorem WinE.up {F : Int → Int} {e e' : Int} {w : Rn} (h : WinE F e w) (l : e ≤ e') : WinE F e' w := by
  obtain ⟨y, y1, y2, y3⟩ := h.rt
  exact ⟨h.ha, h.hl, h.le, h.in', h.lf, y, y1, by omega, y3⟩
structure Stk (F : Int → Int) (g b0 e : Int) (fo bg : List Rn) : Prop where
  okF : ∀ w ∈ fo, b0 ≤ w.1 ∧ w.2.1 < e ∧ WinE F e w
  okB : ∀ w ∈ bg, Opn F g b0 e w
  dec : bg.Pairwise fun u v => v.2.2 < u.2.2
  cov : ∀ s, b0 ≤ s → s < e → Ls F s → ∃ w ∈ fo ++ bg, w.1 ≤ s ∧ s ≤ w.2.1 ∧ w.2.2 = Dn F s
  nd : (fo ++ bg).Pairwise fun u v => u.1 ≠ v.1
theorem Stk.zero (F : Int → Int) (g b0 : Int) : Stk F g b0 b0 [] [] := ⟨fun w h => (List.not_mem_nil h).elim, fun w h => (List.not_mem_nil h).elim, .nil, fun s a b => by omega, .nil⟩
theorem Stk.pop {F : Int → Int} {g b0 e : Int} {fo bg : List Rn} {w : Rn} (h : Stk F g b0 e fo (bg ++ [w])) (top : ∀ x, Dn F x ≤ g) (lt : w.2.2 < Dn F e) : Stk F g b0 e (fo ++ [w]) bg := by
  have hw := h.okB w (by simp)
  have perm : (fo ++ [w] ++ bg).Perm (fo ++ (bg ++ [w])) := by
    rw [List.append_assoc]
    exact List.Perm.append_left _ List.perm_append_comm
  refine ⟨fun u hu => ?_, fun u hu => h.okB u (by simp [hu]), (List.pairwise_append.mp h.dec).1, fun s a b l => ?_, ?_⟩
  · rcases List.mem_append.mp hu with k | k
    · exact h.okF u k
    · rw [List.mem_singleton.mp k]
      refine ⟨hw.b0, hw.lt, hw.ha, hw.hl, hw.le, fun x a b => hw.in' x a (by have := hw.lt; omega), ?_, e, hw.lt, Int.le_refl _, lt, fun s a b z => ?_⟩
      · rcases hw.lf with k | k
        · have := top e; omega
        · exact k
      · by_cases k : s = e
        · have := z.2; rw [k] at this; omega
        · exact hw.no s a (by omega) z
  · obtain ⟨u, hu, r⟩ := h.cov s a b l
    exact ⟨u, perm.mem_iff.mpr hu, r⟩
  · exact (perm.pairwise_iff (fun {a b} k => fun e => k e.symm)).mpr h.nd
/-- the block of one run: nobody is last ahead of it, and the first start of the block takes longest -/
structure Blk (F : Int → Int) (e : Int) (f l t : Int) : Prop where
  ef : e ≤ f
  fl : f ≤ l
  at' : ∀ x, f ≤ x → x ≤ l → Sd F t x
  gap : ∀ x, e ≤ x → x < f → ¬ Ls F x
  top : ∀ x, e ≤ x → x ≤ l → Dn F x ≤ Dn F e
theorem last_gt {F : Int → Int} {t a : Int} (h : t < Dn F a) : ∀ n : Nat, ∃ x, a ≤ x ∧ x ≤ a + n ∧ t < Dn F x ∧ ∀ y, x < y → y ≤ a + n → Dn F y ≤ t
  | 0 => ⟨a, Int.le_refl _, by omega, h, fun y p q => by omega⟩
  | n + 1 => by
    by_cases k : t < Dn F (a + (n + 1 : Nat))
    · exact ⟨_, by omega, Int.le_refl _, k, fun y p q => by omega⟩
    · obtain ⟨x, x1, x2, x3, x4⟩ := last_gt h n
      refine ⟨x, x1, by omega, x3, fun y p q => ?_⟩
      by_cases e : y = a + (n + 1 : Nat)
      · rw [e]; omega
      · exact x4 y p (by omega)
theorem Opn.keep {F : Int → Int} {g b0 e f l t : Int} {w : Rn} (h : Opn F g b0 e w) (b : Blk F e f l t) (ge : Dn F e ≤ w.2.2) (ne : w.2.2 ≠ t) : Opn F g b0 (l + 1) w := by
  have ef := b.ef
  have fl := b.fl
  refine ⟨h.ha, h.hl, h.le, h.b0, by have := h.lt; omega, fun x p q => ?_, fun s p q z => ?_, h.lf⟩
  · by_cases k : x < e
    · exact h.in' x p k
    · have := b.top x (by omega) (by omega); omega
  · by_cases k : s < e
    · exact h.no s p k z
    · by_cases k2 : s < f
      · exact b.gap s (by omega) k2 z.1
      · have := (b.at' s (by omega) (by omega)).2
        have := z.2
        omega
theorem Stk.go {F : Int → Int} {g b0 e f l t : Int} {fo bg : List Rn} {u : Rn} (h : Stk F g b0 e fo (bg ++ [u])) (b : Blk F e f l t) (ge : Dn F e ≤ u.2.2) (eq : u.2.2 = t) : Stk F g b0 (l + 1) fo (bg ++ [(u.1, l, t)]) := by
  have ef := b.ef
  have fl := b.fl
  have hu := h.okB u (by simp)
  have dd := List.pairwise_append.mp h.dec
  have big : ∀ w ∈ bg, t < w.2.2 := fun w hw => by have := dd.2.2 w hw u (by simp); omega
  have ul := hu.lt
  have ule := hu.le
  have ub := hu.b0
  have mapn : (fo ++ (bg ++ [(u.1, l, t)])).map (fun w : Rn => w.1) = (fo ++ (bg ++ [u])).map fun w : Rn => w.1 := by simp
  refine ⟨fun w hw => ?_, fun w hw => ?_, ?_, fun s p q z => ?_, ?_⟩
  · obtain ⟨a1, a2, a3⟩ := h.okF w hw
    exact ⟨a1, by omega, a3.up (by omega)⟩
  · rcases List.mem_append.mp hw with k | k
    · have := big w k
      exact (h.okB w (by simp [k])).keep b (by omega) (by omega)
    · rw [List.mem_singleton.mp k]
      refine ⟨by rw [← eq]; exact hu.ha, b.at' l fl (Int.le_refl _), by show u.1 ≤ l; omega, ub, by show l < l + 1; omega, fun x p q => ?_, fun s p q => by simp only [] at p q; omega, ?_⟩
      · simp only [] at p q ⊢
        by_cases k : x < e
        · have := hu.in' x p k; omega
        · have := b.top x (by omega) (by omega); omega
      · rw [← eq]; exact hu.lf
  · rw [List.pairwise_append]
    exact ⟨dd.1, List.pairwise_singleton _ _, fun w hw v hv => by rw [List.mem_singleton.mp hv]; exact big w hw⟩
  · by_cases k : s < e
    · obtain ⟨w, hw, w1, w2, w3⟩ := h.cov s p k z
      rcases List.mem_append.mp hw with m | m
      · exact ⟨w, List.mem_append_left _ m, w1, w2, w3⟩
      · rcases List.mem_append.mp m with m | m
        · exact ⟨w, List.mem_append_right _ (List.mem_append_left _ m), w1, w2, w3⟩
        · rw [List.mem_singleton.mp m] at w1 w2 w3
          exact ⟨_, List.mem_append_right _ (List.mem_append_right _ (List.mem_singleton_self _)), w1, by show s ≤ l; omega, by show t = _; omega⟩
    · by_cases k2 : s < f
      · exact absurd z (b.gap s (by omega) k2)
      · exact ⟨_, List.mem_append_right _ (List.mem_append_right _ (List.mem_singleton_self _)), by show u.1 ≤ s; omega, by show s ≤ l; omega, ((b.at' s (by omega) (by omega)).2).symm⟩
  · have : ((fo ++ (bg ++ [u])).map fun w : Rn => w.1).Pairwise (· ≠ ·) := List.pairwise_map.mpr h.nd
    rw [← mapn] at this
    exact List.pairwise_map.mp this
theorem Stk.push {F : Int → Int} {g b0 e f l t : Int} {fo bg : List Rn} (h : Stk F g b0 e fo bg) (b : Blk F e f l t) (be : b0 ≤ e) (g0 : Dn F b0 = g) (tg : t ≤ g) (big : ∀ w ∈ bg, Dn F e ≤ w.2.2 ∧ t < w.2.2) : Stk F g b0 (l + 1) fo (bg ++ [(f, l, t)]) := by
  have ef := b.ef
  have fl := b.fl
  refine ⟨fun w hw => ?_, fun w hw => ?_, ?_, fun s p q z => ?_, ?_⟩
  · obtain ⟨a1, a2, a3⟩ := h.okF w hw
    exact ⟨a1, by omega, a3.up (by omega)⟩
  · rcases List.mem_append.mp hw with k | k
    · have := big w k
      exact (h.okB w k).keep b this.1 (by omega)
    · rw [List.mem_singleton.mp k]
      have top : ∀ x, f ≤ x → x ≤ l → Dn F x ≤ t := fun x p q => by have := (b.at' x p q).2; omega
      refine ⟨b.at' f (Int.le_refl _) fl, b.at' l fl (Int.le_refl _), fl, by show b0 ≤ f; omega, by show l < l + 1; omega, fun x p q => top x p (by omega), fun s p q => by simp only [] at p; omega, ?_⟩
      by_cases tge : t = g
      · exact .inl tge
      · right
        have lt : b0 < f := by
          refine Decidable.byContradiction fun n => ?_
          have : b0 = f := by omega
          have e2 := (b.at' f (Int.le_refl _) fl).2
          rw [this] at g0
          omega
        obtain ⟨x, x1, x2, x3, x4⟩ := last_gt (F := F) (t := t) (a := b0) (by omega) (f - b0 - 1).toNat
        rw [show b0 + ((f - b0 - 1).toNat : Int) = f - 1 by omega] at x2 x4
        refine ⟨x, by show x < f; omega, x3, fun s p q z => ?_⟩
        simp only [] at q
        have sx : s ≠ x := fun e => by rw [e] at z; have h2 : Dn F x = t := z.2; omega
        have se : s < e := Decidable.byContradiction fun n => b.gap s (by omega) q z.1
        obtain ⟨w, hw, w1, w2, w3⟩ := h.cov s (by omega) se z.1
        have wt : w.2.2 = t := by rw [w3]; exact z.2
        rcases List.mem_append.mp hw with m | m
        · obtain ⟨y, y1, y2, y3, _⟩ := (h.okF w m).2.2.rt
          by_cases k : y < f
          · have := x4 y (by omega) (by omega); omega
          · have : y = f := by omega
            have e2 := (b.at' f (Int.le_refl _) fl).2
            rw [this] at y3
            omega
        · have := (big w m).2; omega
  · rw [List.pairwise_append]
    exact ⟨h.dec, List.pairwise_singleton _ _, fun w hw v hv => by rw [List.mem_singleton.mp hv]; exact (big w hw).2⟩
  · by_cases k : s < e
    · obtain ⟨w, hw, r⟩ := h.cov s p k z
      refine ⟨w, ?_, r⟩
      rcases List.mem_append.mp hw with m | m
      · exact List.mem_append_left _ m
      · exact List.mem_append_right _ (List.mem_append_left _ m)
    · by_cases k2 : s < f
      · exact absurd z (b.gap s (by omega) k2)
      · exact ⟨_, List.mem_append_right _ (List.mem_append_right _ (List.mem_singleton_self _)), by show f ≤ s; omega, by show s ≤ l; omega, ((b.at' s (by omega) (by omega)).2).symm⟩
  · rw [← List.append_assoc, List.pairwise_append]
    refine ⟨h.nd, List.pairwise_singleton _ _, fun w hw v hv => ?_⟩
    rw [List.mem_singleton.mp hv]
    have : w.1 < e := by
      rcases List.mem_append.mp hw with m | m
      · have a := h.okF w m
        have := a.2.2.le
        omega
      · have a := h.okB w m
        have := a.le
        have := a.lt
        omega
    show w.1 ≠ f
    omega
/-! ### the windows of one cycle -/
/-- which windows they are, the first start in 0 .. c - 1 -/
def TW (c : Int) (F : Int → Int) (g : Int) (w : Rn) : Prop := (w = (0, c - 1, g) ∧ ∃ s, Sd F g s) ∨ (0 ≤ w.1 ∧ w.1 < c ∧ Win F w)
def homeW (c g : Int) (w : Rn) : Rn := if w.2.2 = g then (0, c - 1, w.2.2) else (w.1 % c, w.1 % c + w.2.1 - w.1, w.2.2)
section
variable {c : Int} {F : Int → Int}
theorem dn_per (m : Pm.Mono c F) (x k : Int) : Dn F (x + k * c) = Dn F x := by unfold Dn; rw [m.per]; omega
theorem ls_per (m : Pm.Mono c F) (x k : Int) : Ls F (x + k * c) ↔ Ls F x := by
  unfold Ls
  have := m.per x k
  have h2 := m.per (x + 1) k
  rw [show x + k * c + 1 = x + 1 + k * c by omega]
  omega
theorem sd_per (m : Pm.Mono c F) (d x k : Int) : Sd F d (x + k * c) ↔ Sd F d x := by unfold Sd; rw [ls_per m, dn_per m]
theorem WinE.mv (m : Pm.Mono c F) {e : Int} {w : Rn} (k : Int) (h : WinE F e w) : WinE F (e + k * c) (w.1 + k * c, w.2.1 + k * c, w.2.2) := by
  have b : ∀ x, x = x - k * c + k * c := fun x => by omega
  obtain ⟨x, x1, x2, x3⟩ := h.lf
  obtain ⟨y, y1, y2, y3, y4⟩ := h.rt
  refine ⟨(sd_per m _ _ _).mpr h.ha, (sd_per m _ _ _).mpr h.hl, by have := h.le; simp only []; omega, fun x p q => ?_, ⟨x + k * c, by simp only []; omega, by rw [dn_per m]; exact x2, fun s p q z => ?_⟩, ⟨y + k * c, by simp only []; omega, by omega, by rw [dn_per m]; exact y3, fun s p q z => ?_⟩⟩
  · simp only [] at p q ⊢
    rw [b x, dn_per m]
    exact h.in' _ (by omega) (by omega)
  · simp only [] at p q z
    rw [b s, sd_per m] at z
    exact x3 _ (by omega) (by omega) z
  · simp only [] at p q z
    rw [b s, sd_per m] at z
    exact y4 _ (by omega) (by omega) z
theorem Win.mv (m : Pm.Mono c F) {w : Rn} (k : Int) (h : Win F w) : Win F (w.1 + k * c, w.2.1 + k * c, w.2.2) := h.elim fun _ h => ⟨_, h.mv m k⟩
theorem Win.lt {g : Int} (top : ∀ x, Dn F x ≤ g) {w : Rn} (h : Win F w) : w.2.2 < g := by
  obtain ⟨e, h⟩ := h
  obtain ⟨x, _, x2, _⟩ := h.lf
  have := top x
  omega
/-- a window that begins within another one of its duration is that one -/
theorem Win.uniq {u w : Rn} (hu : Win F u) (hw : Win F w) (d : u.2.2 = w.2.2) (a : u.1 ≤ w.1) (b : w.1 ≤ u.2.1) : u = w := by
  obtain ⟨e1, hu⟩ := hu
  obtain ⟨e2, hw⟩ := hw
  have key : ∀ {u w : Rn} {e1 e2 : Int}, WinE F e1 u → WinE F e2 w → u.2.2 = w.2.2 → u.1 = w.1 → ¬ u.2.1 < w.2.1 := fun {u w e1 e2} hu hw d e lt => by
    obtain ⟨y, y1, _, y3, y4⟩ := hu.rt
    by_cases k : w.2.1 ≤ y
    · exact y4 w.2.1 lt k (by rw [d]; exact hw.hl)
    · have := hw.in' y (by have := hu.le; omega) (by omega)
      omega
  have e : u.1 = w.1 := by
    refine Decidable.byContradiction fun n => ?_
    obtain ⟨x, x1, x2, x3⟩ := hw.lf
    by_cases k : x ≤ u.1
    · exact x3 u.1 k (by omega) (by rw [← d]; exact hu.ha)
    · have := hu.in' x (by omega) (by omega)
      omega
  have l : u.2.1 = w.2.1 := by
    have h1 := key hu hw d e
    have h2 := key hw hu d.symm e.symm
    omega
  obtain ⟨u1, u2, u3⟩ := u
  obtain ⟨w1, w2, w3⟩ := w
  simp only [] at e l d
  subst e l d
  rfl
theorem Stk.all (m : Pm.Mono c F) {g b0 : Int} {fo bg : List Rn} (top : ∀ x, Dn F x ≤ g) (g0 : Dn F b0 = g) (h : Stk F g b0 (b0 + c) fo bg) :
    ((fo ++ bg).map (homeW c g)).Nodup ∧ ∀ w, w ∈ (fo ++ bg).map (homeW c g) ↔ TW c F g w := by
  have c1 := m.c1
  have ge : Dn F (b0 + c) = g := by have := dn_per m b0 1; rw [Int.one_mul] at this; omega
  have wb : ∀ w ∈ fo ++ bg, b0 ≤ w.1 ∧ w.2.1 < b0 + c ∧ w.1 ≤ w.2.1 ∧ Sd F w.2.2 w.1 ∧ (w.2.2 = g ∨ Win F w) := fun w hw => by
    rcases List.mem_append.mp hw with k | k
    · have := h.okF w k
      exact ⟨this.1, this.2.1, this.2.2.le, this.2.2.ha, .inr ⟨_, this.2.2⟩⟩
    · have o := h.okB w k
      refine ⟨o.b0, o.lt, o.le, o.ha, ?_⟩
      by_cases q : w.2.2 = g
      · exact .inl q
      · right
        have lt : w.2.2 < g := by have := top w.1; have := o.ha.2; omega
        rcases o.lf with z | z
        · exact absurd z q
        · exact ⟨b0 + c, o.ha, o.hl, o.le, fun x p r => o.in' x p (by have := o.lt; omega), z, b0 + c, o.lt, Int.le_refl _, by omega, fun s p r t => by
            by_cases k : s = b0 + c
            · have := t.2; rw [k] at this; omega
            · exact o.no s p (by omega) t⟩
  constructor
  · rw [List.nodup_iff_pairwise_ne, List.pairwise_map]
    have gs : ∀ u ∈ fo, u.2.2 ≠ g := fun u hu e => by
      have := Win.lt top ⟨_, (h.okF u hu).2.2⟩
      omega
    have one : (fo ++ bg).Pairwise fun u v => ¬ (u.2.2 = g ∧ v.2.2 = g) := by
      rw [List.pairwise_append]
      refine ⟨?_, h.dec.imp fun {a b} l z => by omega, fun u hu v hv z => gs u hu z.1⟩
      exact List.pairwise_of_forall_mem_list fun u hu v hv z => gs u hu z.1
    have both := h.nd.and one
    refine both.imp_of_mem fun {u v} hu hv ⟨n1, n2⟩ e => ?_
    have wu := wb u hu
    have wv := wb v hv
    unfold homeW at e
    by_cases k1 : u.2.2 = g <;> by_cases k2 : v.2.2 = g
    · exact n2 ⟨k1, k2⟩
    · rw [if_pos k1, if_neg k2] at e
      have := congrArg (fun w : Rn => w.2.2) e
      simp only [] at this; omega
    · rw [if_neg k1, if_pos k2] at e
      have := congrArg (fun w : Rn => w.2.2) e
      simp only [] at this; omega
    · rw [if_neg k1, if_neg k2] at e
      have e1 := congrArg (fun w : Rn => w.1) e
      simp only [] at e1
      have p1 := Int.emod_add_mul_ediv u.1 c
      have p2 := Int.emod_add_mul_ediv v.1 c
      rw [Int.mul_comm c] at p1 p2
      apply n1
      rcases Int.lt_trichotomy (u.1 / c) (v.1 / c) with l | l | l
      · have : (u.1 / c + 1) * c ≤ v.1 / c * c := Int.mul_le_mul_of_nonneg_right (by omega) (by omega)
        rw [Int.add_mul, Int.one_mul] at this
        omega
      · have : u.1 / c * c = v.1 / c * c := by rw [l]
        omega
      · have : (v.1 / c + 1) * c ≤ u.1 / c * c := Int.mul_le_mul_of_nonneg_right (by omega) (by omega)
        rw [Int.add_mul, Int.one_mul] at this
        omega
  · intro w
    constructor
    · intro hw
      obtain ⟨u, hu, rfl⟩ := List.mem_map.mp hw
      obtain ⟨u1, u2, u3, u4, u5⟩ := wb u hu
      unfold homeW
      by_cases k : u.2.2 = g
      · rw [if_pos k, k]
        rw [k] at u4
        exact .inl ⟨rfl, u.1, u4⟩
      · rw [if_neg k]
        right
        have win := u5.resolve_left k
        have e := Int.emod_add_mul_ediv u.1 c
        refine ⟨Int.emod_nonneg _ (by omega), Int.emod_lt_of_pos _ (by omega), ?_⟩
        have := win.mv m (-(u.1 / c))
        rw [Int.neg_mul, Int.mul_comm (u.1 / c)] at this
        rw [show u.1 + -(c * (u.1 / c)) = u.1 % c by omega, show u.2.1 + -(c * (u.1 / c)) = u.1 % c + u.2.1 - u.1 by omega] at this
        exact this
    · have back : ∀ s, ∃ k : Int, b0 ≤ s + k * c ∧ s + k * c < b0 + c := fun s => by
        have e := Int.emod_add_mul_ediv (s - b0) c
        have r0 := Int.emod_nonneg (s - b0) (show c ≠ 0 by omega)
        have r1 := Int.emod_lt_of_pos (s - b0) (show 0 < c by omega)
        rw [Int.mul_comm] at e
        exact ⟨-((s - b0) / c), by rw [Int.neg_mul]; omega, by rw [Int.neg_mul]; omega⟩
      rintro (⟨rfl, s, hs⟩ | ⟨w0, wc, win⟩)
      · obtain ⟨k, k1, k2⟩ := back s
        have hs' := (sd_per m g s k).mpr hs
        obtain ⟨u, hu, _, _, u3⟩ := h.cov _ k1 k2 hs'.1
        have ug : u.2.2 = g := by rw [u3]; exact hs'.2
        exact List.mem_map.mpr ⟨u, hu, by unfold homeW; rw [if_pos ug, ug]⟩
      · obtain ⟨k, k1, k2⟩ := back w.1
        have hwin := win.mv m k
        have ha : Sd F w.2.2 (w.1 + k * c) := hwin.elim fun _ h => h.ha
        obtain ⟨u, hu, u1, u2, u3⟩ := h.cov _ k1 k2 ha.1
        have ud : u.2.2 = w.2.2 := by rw [u3]; exact ha.2
        have lt := win.lt top
        have wu := (wb u hu).2.2.2.2.resolve_left (by omega)
        have eq := wu.uniq hwin ud u1 u2
        refine List.mem_map.mpr ⟨u, hu, ?_⟩
        unfold homeW
        rw [if_neg (by omega), eq]
        simp only []
        have : (w.1 + k * c) % c = w.1 := by rw [Int.add_mul_emod_self_right]; exact Int.emod_eq_of_lt w0 wc
        rw [this]
        obtain ⟨w1, w2, w3⟩ := w
        simp only []
        congr 2
        omega
theorem Stk.covA (m : Pm.Mono c F) {g b0 : Int} {fo bg : List Rn} (h : Stk F g b0 (b0 + c) fo bg) (s : Int) (hs : Ls F s) : ∃ w ∈ (fo ++ bg).map (homeW c g), ∃ k : Int, w.1 + k * c ≤ s ∧ s ≤ w.2.1 + k * c ∧ w.2.2 = Dn F s := by
  have c1 := m.c1
  have e := Int.emod_add_mul_ediv (s - b0) c
  have r0 := Int.emod_nonneg (s - b0) (show c ≠ 0 by omega)
  have r1 := Int.emod_lt_of_pos (s - b0) (show 0 < c by omega)
  rw [Int.mul_comm] at e
  obtain ⟨k0, hk0⟩ : ∃ k0, k0 = (s - b0) / c := ⟨_, rfl⟩
  rw [← hk0] at e
  have e2 : s = s - k0 * c + k0 * c := by omega
  have hs' : Ls F (s - k0 * c) := by rw [e2, ls_per m] at hs; exact hs
  obtain ⟨u, hu, u1, u2, u3⟩ := h.cov (s - k0 * c) (by omega) (by omega) hs'
  have ud : u.2.2 = Dn F s := by rw [u3]; have := dn_per m (s - k0 * c) k0; rw [← e2] at this; exact this.symm
  refine ⟨_, List.mem_map.mpr ⟨u, hu, rfl⟩, ?_⟩
  unfold homeW
  by_cases q : u.2.2 = g
  · rw [if_pos q]
    have e3 := Int.emod_add_mul_ediv s c
    have q0 := Int.emod_nonneg s (show c ≠ 0 by omega)
    have q1 := Int.emod_lt_of_pos s (show 0 < c by omega)
    rw [Int.mul_comm] at e3
    exact ⟨s / c, by simp only []; omega, by simp only []; omega, ud⟩
  · rw [if_neg q]
    have e3 := Int.emod_add_mul_ediv u.1 c
    rw [Int.mul_comm] at e3
    refine ⟨k0 + u.1 / c, ?_, ?_, ud⟩
    · simp only []; rw [Int.add_mul]; omega
    · simp only []; rw [Int.add_mul]; omega
end
end Few

set_option Elab.async false
set_option linter.all false
set_option maxRecDepth 100000
set_option maxHeartbeats 4000000
set_option exponentiation.threshold 3000
namespace Gr
open PySem PySem.Spec PyProof.Rows L2
open Pm (Rn)
open Few
def ChainT (F : Int → Int) : Int → List Rn → List Int → Prop
  | _, [], [] => True
  | e, r :: R, T :: Ts => Blk F e r.1 r.2.1 (r.2.2 - r.1) ∧ T = Dn F e ∧ ChainT F (r.2.1 + 1) R Ts
  | _, _, _ => False
def endC : Int → List Rn → Int
  | e, [] => e
  | _, r :: R => endC (r.2.1 + 1) R
theorem chain_app {F : Int → Int} : ∀ {A B : List Rn} {S T : List Int} {e : Int}, ChainT F e A S → ChainT F (endC e A) B T → ChainT F e (A ++ B) (S ++ T)
  | [], B, [], T, e, _, h => h
  | [], B, _ :: _, T, e, h, _ => h.elim
  | _ :: _, B, [], T, e, h, _ => h.elim
  | r :: A, B, s :: S, T, e, ⟨h1, h2, h3⟩, h => ⟨h1, h2, chain_app h3 h⟩
theorem chain_len {F : Int → Int} : ∀ {A : List Rn} {S : List Int} {e : Int}, ChainT F e A S → A.length = S.length
  | [], [], e, _ => rfl
  | [], _ :: _, e, h => h.elim
  | _ :: _, [], e, h => h.elim
  | r :: A, s :: S, e, ⟨_, _, h3⟩ => by simp [chain_len h3]
theorem chain_split {F : Int → Int} : ∀ {A B : List Rn} {S T : List Int} {e : Int}, A.length = S.length → ChainT F e (A ++ B) (S ++ T) → ChainT F e A S ∧ ChainT F (endC e A) B T
  | [], B, [], T, e, _, h => ⟨trivial, h⟩
  | [], B, _ :: _, T, e, h, _ => by simp at h
  | _ :: _, B, [], T, e, h, _ => by simp at h
  | r :: A, B, s :: S, T, e, hl, ⟨h1, h2, h3⟩ => by
    obtain ⟨a, b⟩ := chain_split (A := A) (S := S) (by simpa using hl) h3
    exact ⟨⟨h1, h2, a⟩, b⟩
theorem endC_app : ∀ {A B : List Rn} {e : Int}, endC e (A ++ B) = endC (endC e A) B
  | [], B, e => rfl
  | r :: A, B, e => endC_app (A := A) (B := B) (e := r.2.1 + 1)
theorem blk_mv {c : Int} {F : Int → Int} (m : Pm.Mono c F) {e f l t : Int} (h : Blk F e f l t) : Blk F (e + c) (f + c) (l + c) t := by
  have p : ∀ x, x = x - c + 1 * c := fun x => by omega
  refine ⟨by have := h.ef; omega, by have := h.fl; omega, fun x a b => ?_, fun x a b z => ?_, fun x a b => ?_⟩
  · rw [p x, sd_per m]; exact h.at' _ (by omega) (by omega)
  · rw [p x, ls_per m] at z; exact h.gap _ (by omega) (by omega) z
  · have q := dn_per m e 1
    rw [Int.one_mul] at q
    rw [q, p x, dn_per m]
    exact h.top _ (by omega) (by omega)
theorem chain_mv {c : Int} {F : Int → Int} (m : Pm.Mono c F) : ∀ {A : List Rn} {S : List Int} {e : Int}, ChainT F e A S → ChainT F (e + c) (A.map (Pm.mv c)) S
  | [], [], e, _ => trivial
  | [], _ :: _, e, h => h.elim
  | _ :: _, [], e, h => h.elim
  | r :: A, s :: S, e, ⟨h1, h2, h3⟩ => by
    have q := dn_per m e 1
    rw [Int.one_mul] at q
    refine ⟨?_, by rw [h2, q], ?_⟩
    · have := blk_mv m h1
      simp only [Pm.mv1, Pm.mv2, Pm.mv3]
      rw [show r.2.2 + c - (r.1 + c) = r.2.2 - r.1 by omega]
      exact this
    · have := chain_mv m h3
      simp only [Pm.mv2]
      rw [show r.2.1 + c + 1 = r.2.1 + 1 + c by omega]
      exact this
def topsF : Rn → List Rn → List Int
  | _, [] => []
  | p, r :: R => (r.2.2 - p.2.1 - 1) :: topsF r R
theorem tops_prs : ∀ (p : Rn) (R : List Rn), ((p :: R.dropLast).zip R).map (fun q : Rn × Rn => q.2.2.2 - q.1.2.1 - 1) = topsF p R
  | p, [] => rfl
  | p, [r] => rfl
  | p, r :: s :: R => by
    have := tops_prs r (s :: R)
    simp only [List.dropLast_cons₂, List.zip_cons_cons, List.map_cons, topsF] at this ⊢
    rw [this]
theorem topsF_len : ∀ (p : Rn) (R : List Rn), (topsF p R).length = R.length
  | p, [] => rfl
  | p, r :: R => by simp [topsF, topsF_len r R]
theorem chain_of {c : Int} {Z : List Rn} (ok : Pm.Ok c Z) : ∀ (post pre : List Rn) (p : Rn), Z = pre ++ post → ((pre = [] ∧ ∃ l, Z.getLast? = some l ∧ p = Pm.mv (-c) l) ∨ pre.getLast? = some p) → ChainT (Pm.F c Z) (p.2.1 + 1) post (topsF p post)
  | [], pre, p, _, _ => trivial
  | r :: post, pre, p, e, hp => by
    have c1 := ok.c1
    have okS := ok
    rw [e] at okS
    have rfl' := ok.fl r (by rw [e]; simp)
    have before : p.2.1 < r.1 ∧ ∀ x, p.2.1 < x → x ≤ r.2.1 → Pm.F c Z x = Pm.stepF r x := by
      have at1 : ∀ x, (∀ a ∈ pre, a.2.1 < x) → x ≤ r.2.1 → (∀ a ∈ Z, a.2.1 - c < x) → Pm.F c Z x = Pm.stepF r x := fun x h1 h2 h3 => by
        have := okS.F_at (x := x) (k := 0) (fun a ha => by have := h1 a ha; omega) (by omega) (fun a ha => by have := h3 a (by rw [e]; exact ha); omega)
        rw [← e] at this
        rw [this]
        unfold Pm.mv
        rw [Int.zero_mul, Int.add_zero, Int.add_zero, Int.add_zero]
      rcases hp with ⟨rfl, l, hl, rfl⟩ | hp
      · have hlm := List.mem_of_getLast? hl
        have mx : ∀ a ∈ Z, a.2.1 ≤ l.2.1 := by
          rcases List.eq_nil_or_concat Z with z | ⟨A, b, z⟩
          · rw [z] at hl; cases hl
          · rw [List.concat_eq_append] at z
            rw [z, List.getLast?_concat] at hl
            cases hl
            have := (z ▸ ok : Pm.Ok c (A ++ [l])).lastMax
            rw [z]; exact this
        have ll := ok.ll hlm (show r ∈ Z by rw [e]; simp)
        refine ⟨by simp only [Pm.mv2]; omega, fun x a b => at1 x (fun a h => (List.not_mem_nil h).elim) b fun a' ha => ?_⟩
        simp only [Pm.mv2] at a
        have := mx a' ha
        omega
      · have hpm := List.mem_of_getLast? hp
        have pz : p ∈ Z := by rw [e]; exact List.mem_append_left _ hpm
        have pp := (List.pairwise_append.mp okS.pw).2.2 p hpm r (by simp)
        have mx : ∀ a ∈ pre, a.2.1 ≤ p.2.1 := fun a ha => by
          rcases List.eq_nil_or_concat pre with z | ⟨A, b, z⟩
          · rw [z] at hp; cases hp
          · rw [List.concat_eq_append] at z
            rw [z, List.getLast?_concat] at hp
            cases hp
            rw [z] at ha
            rcases List.mem_append.mp ha with k | k
            · have pw1 := (List.pairwise_append.mp okS.pw).1
              rw [z] at pw1
              have q2 := (List.pairwise_append.mp pw1).2.2 a k p (by simp)
              have := ok.fl p pz
              unfold Pm.GoesOn at q2
              omega
            · rw [List.mem_singleton.mp k]; exact Int.le_refl _
        unfold Pm.GoesOn at pp
        refine ⟨pp.1, fun x a b => at1 x (fun a' ha => by have := mx a' ha; omega) b fun a' ha => ?_⟩
        have := ok.ll ha pz
        have := ok.fl p pz
        omega
    obtain ⟨pr, step⟩ := before
    have val1 : ∀ x, p.2.1 < x → x ≤ r.1 → Pm.F c Z x = r.2.2 := fun x a b => by
      rw [step x a (by omega)]; unfold Pm.stepF; rw [if_neg (by omega)]; omega
    have val2 : ∀ x, r.1 ≤ x → x ≤ r.2.1 → Pm.F c Z x = r.2.2 + (x - r.1) := fun x a b => by
      rw [step x (by omega) b]; unfold Pm.stepF; split <;> omega
    refine ⟨⟨by omega, rfl', fun x a b => ⟨?_, ?_⟩, fun x a b z => ?_, fun x a b => ?_⟩, ?_, ?_⟩
    · exact (F_grows ok x).mp ⟨_, r, by rw [e]; simp, 0, by omega, by omega, rfl⟩
    · unfold Dn; rw [val2 x a b]; omega
    · unfold Ls at z
      rw [val1 x (by omega) (by omega), val1 (x + 1) (by omega) (by omega)] at z
      omega
    · unfold Dn
      rw [val1 (p.2.1 + 1) (by omega) (by omega)]
      by_cases k : x ≤ r.1
      · rw [val1 x (by omega) k]; omega
      · rw [val2 x (by omega) b]; omega
    · unfold Dn
      rw [val1 (p.2.1 + 1) (by omega) (by omega)]; omega
    · exact chain_of ok post (pre ++ [r]) r (by rw [e]; simp) (.inr (by rw [List.getLast?_concat]))
theorem endC_last : ∀ {Z : List Rn} {e : Int} {l : Rn}, Z.getLast? = some l → endC e Z = l.2.1 + 1
  | [], e, l, h => by cases h
  | [r], e, l, h => by
    simp only [List.getLast?_singleton, Option.some.injEq] at h
    rw [← h]; rfl
  | r :: s :: Z, e, l, h => by
    rw [List.getLast?_cons_cons] at h
    exact endC_last (Z := s :: Z) (e := r.2.1 + 1) h
theorem endC_mv {c : Int} : ∀ {A : List Rn} {e : Int}, endC (e + c) (A.map (Pm.mv c)) = endC e A + c
  | [], e => rfl
  | r :: A, e => by
    simp only [List.map_cons, endC, Pm.mv2]
    rw [show r.2.1 + c + 1 = r.2.1 + 1 + c by omega]
    exact endC_mv
theorem chain_top {F : Int → Int} {g : Int} : ∀ {A : List Rn} {S : List Int} {e : Int}, ChainT F e A S → (∀ s ∈ S, s ≤ g) → ∀ x, e ≤ x → x < endC e A → Dn F x ≤ g
  | [], [], e, _, _, x, a, b => by unfold endC at b; omega
  | [], _ :: _, e, h, _, _, _, _ => h.elim
  | _ :: _, [], e, h, _, _, _, _ => h.elim
  | r :: A, s :: S, e, ⟨h1, h2, h3⟩, hs, x, a, b => by
    by_cases k : x ≤ r.2.1
    · have := h1.top x a k
      have := hs s (by simp)
      omega
    · exact chain_top h3 (fun s hs' => hs s (List.mem_cons_of_mem _ hs')) x (by omega) b
/-- the runs turned round -/
theorem chain_turn {c : Int} {Z : List Rn} {zl : Rn} (ok : Pm.Ok c Z) (hzl : Z.getLast? = some zl) {g : Int} {k : Nat} (hg : ∀ s ∈ topsF (Pm.mv (-c) zl) Z, s ≤ g) (hk : (topsF (Pm.mv (-c) zl) Z)[k]? = some g) :
    ∃ eb, ChainT (Pm.F c Z) eb (Z.drop k ++ (Z.take k).map (Pm.mv c)) ((topsF (Pm.mv (-c) zl) Z).drop k ++ (topsF (Pm.mv (-c) zl) Z).take k) ∧ endC eb (Z.drop k ++ (Z.take k).map (Pm.mv c)) = eb + c ∧ Dn (Pm.F c Z) eb = g ∧ ∀ x, Dn (Pm.F c Z) x ≤ g := by
  obtain ⟨ts, hts⟩ : ∃ ts, ts = topsF (Pm.mv (-c) zl) Z := ⟨_, rfl⟩
  rw [← hts] at hg hk ⊢
  have c1 := ok.c1
  have m := ok.mono
  obtain ⟨e0, he0⟩ : ∃ e0, e0 = (Pm.mv (-c) zl).2.1 + 1 := ⟨_, rfl⟩
  have cz : ChainT (Pm.F c Z) e0 Z ts := by rw [hts, he0]; exact chain_of ok Z [] _ rfl (.inl ⟨rfl, zl, hzl, rfl⟩)
  have ez : endC e0 Z = e0 + c := by rw [endC_last hzl, he0]; simp only [Pm.mv2]; omega
  have tl := chain_len cz
  have czz : ChainT (Pm.F c Z) e0 (Z.take k ++ ((Z.drop k ++ (Z.take k).map (Pm.mv c)) ++ (Z.drop k).map (Pm.mv c))) (ts.take k ++ ((ts.drop k ++ ts.take k) ++ ts.drop k)) := by
    have := chain_app cz (T := ts) (B := Z.map (Pm.mv c)) (by rw [ez]; exact chain_mv m cz)
    have e1 : Z.take k ++ ((Z.drop k ++ (Z.take k).map (Pm.mv c)) ++ (Z.drop k).map (Pm.mv c)) = Z ++ Z.map (Pm.mv c) := by
      rw [← List.append_assoc, ← List.append_assoc, List.take_append_drop, List.append_assoc, ← List.map_append, List.take_append_drop]
    have e2 : ts.take k ++ ((ts.drop k ++ ts.take k) ++ ts.drop k) = ts ++ ts := by
      rw [← List.append_assoc, ← List.append_assoc, List.take_append_drop, List.append_assoc, List.take_append_drop]
    rw [e1, e2]; exact this
  have lk : (Z.take k).length = (ts.take k).length := by rw [List.length_take, List.length_take, tl]
  obtain ⟨_, c2⟩ := chain_split lk czz
  obtain ⟨c3, _⟩ := chain_split (by simp only [List.length_append, List.length_drop, List.length_map, List.length_take, tl]) c2
  have kl := (List.getElem?_eq_some_iff.mp hk).1
  refine ⟨_, c3, ?_, ?_, fun x => ?_⟩
  · rw [endC_app, ← endC_app (A := Z.take k) (B := Z.drop k), List.take_append_drop, ez, endC_mv]
  · have hd : Z.drop k = Z[k]'(by omega) :: Z.drop (k + 1) := List.drop_eq_getElem_cons (by omega)
    have hd2 : ts.drop k = g :: ts.drop (k + 1) := by
      rw [List.drop_eq_getElem_cons kl]
      rw [List.getElem?_eq_getElem kl] at hk
      rw [Option.some.inj hk]
    rw [hd, hd2] at c3
    exact c3.2.1.symm
  · have e := Int.emod_add_mul_ediv (x - e0) c
    have r0 := Int.emod_nonneg (x - e0) (show c ≠ 0 by omega)
    have r1 := Int.emod_lt_of_pos (x - e0) (show 0 < c by omega)
    rw [Int.mul_comm] at e
    have := chain_top cz hg (x - (x - e0) / c * c) (by omega) (by omega)
    have p := dn_per m (x - (x - e0) / c * c) ((x - e0) / c)
    rw [Int.sub_add_cancel] at p
    omega
/-- what windows_of finds -/
def LexS (ws : List Rn) : Prop := ws.Pairwise fun a b => TsO.lexL [b.1, b.2.1, b.2.2] [a.1, a.2.1, a.2.2] = false
def FewL (c : Int) (F : Int → Int) (ws : List Rn) : Prop := ∃ g, (∀ x, Dn F x ≤ g) ∧ (∃ x, Dn F x = g) ∧ LexS ws ∧ ws.Nodup ∧ ∀ w, w ∈ ws ↔ TW c F g w
/-- each last start lies in one of the windows -/
def CovL (c : Int) (F : Int → Int) (ws : List Rn) : Prop := ∀ s, Ls F s → ∃ w ∈ ws, ∃ k : Int, w.1 + k * c ≤ s ∧ s ≤ w.2.1 + k * c ∧ w.2.2 = Dn F s
theorem lex_eq {a b : Rn} (h1 : TsO.lexL [b.1, b.2.1, b.2.2] [a.1, a.2.1, a.2.2] = false) (h2 : TsO.lexL [a.1, a.2.1, a.2.2] [b.1, b.2.1, b.2.2] = false) : a = b := by
  obtain ⟨a1, a2, a3⟩ := a
  obtain ⟨b1, b2, b3⟩ := b
  simp only [TsO.lexL] at h1 h2
  by_cases k1 : a1 = b1
  · subst k1
    rw [if_pos rfl] at h1 h2
    by_cases k2 : a2 = b2
    · subst k2
      rw [if_pos rfl] at h1 h2
      by_cases k3 : a3 = b3
      · rw [k3]
      · rw [if_neg k3] at h2
        rw [if_neg (fun e => k3 e.symm)] at h1
        have := of_decide_eq_false h1
        have := of_decide_eq_false h2
        omega
    · rw [if_neg k2] at h2
      rw [if_neg (fun e => k2 e.symm)] at h1
      have := of_decide_eq_false h1
      have := of_decide_eq_false h2
      omega
  · rw [if_neg k1] at h2
    rw [if_neg (fun e => k1 e.symm)] at h1
    have := of_decide_eq_false h1
    have := of_decide_eq_false h2
    omega
theorem sorted_eq {R : Rn → Rn → Prop} (anti : ∀ a b, R a b → R b a → a = b) : ∀ {A B : List Rn}, A.Nodup → B.Nodup → (∀ x, x ∈ A ↔ x ∈ B) → A.Pairwise R → B.Pairwise R → A = B
  | [], [], _, _, _, _, _ => rfl
  | [], b :: B, _, _, h, _, _ => by have := (h b).mpr (by simp); cases this
  | a :: A, [], _, _, h, _, _ => by have := (h a).mp (by simp); cases this
  | a :: A, b :: B, nA, nB, h, sA, sB => by
    have pA := List.pairwise_cons.mp sA
    have pB := List.pairwise_cons.mp sB
    have e : a = b := by
      have ha : a ∈ b :: B := (h a).mp (by simp)
      have hb : b ∈ a :: A := (h b).mpr (by simp)
      rcases List.mem_cons.mp ha with k | k
      · exact k
      · rcases List.mem_cons.mp hb with q | q
        · exact q.symm
        · exact anti _ _ (pA.1 b q) (pB.1 a k)
    subst e
    have nA' := List.nodup_cons.mp nA
    have nB' := List.nodup_cons.mp nB
    rw [sorted_eq anti nA'.2 nB'.2 (fun x => ?_) pA.2 pB.2]
    constructor
    · intro hx
      rcases List.mem_cons.mp ((h x).mp (List.mem_cons_of_mem _ hx)) with k | k
      · rw [k] at hx; exact absurd hx nA'.1
      · exact k
    · intro hx
      rcases List.mem_cons.mp ((h x).mpr (List.mem_cons_of_mem _ hx)) with k | k
      · rw [k] at hx; exact absurd hx nB'.1
      · exact k
theorem FewL.uniq {c : Int} {F : Int → Int} {A B : List Rn} (hA : FewL c F A) (hB : FewL c F B) : A = B := by
  obtain ⟨g, g1, ⟨x, gx⟩, sA, nA, mA⟩ := hA
  obtain ⟨g', g1', ⟨x', gx'⟩, sB, nB, mB⟩ := hB
  have e : g = g' := by
    have := g1 x'
    have := g1' x
    omega
  subst e
  exact sorted_eq (fun a b h1 h2 => lex_eq h1 h2) nA nB (fun w => (mA w).trans (mB w).symm) sA sB
end Gr

set_option Elab.async false
set_option linter.all false
set_option maxRecDepth 100000
/-! a method of a built-in type where the place of the call must not show (within a comprehension) -/
namespace Gr
open PySem PySem.Spec PyProof.Rows L2
variable {X : Cx} {o e : Expr} {es : List Expr} {to : TE} {t : TA} {name : Str} {apos cpos : Pos} {T id : String} {r : V → List V → Hp → VK → Prop} {K : PySem.W.Frag}
theorem pe_bmK (hK : X.K = K) (pa : PlainAttrs T) (slot : Slot T name id) (hty : typeOf (.builtin id) = pure (.type "method_descriptor")) (hm : MtR X id r) (ho : PE X o to) (ha : PA X (e :: es) t)
    (hbase : attributeBase o name X.env (eval o X.env) = eval o X.env := by rfl)
    (hfew : ((backTo cpos (starEach (e :: es) X.env)).all (fun x => !x.1) && (backToKw cpos (keywordEach [] X.env)).all (fun x => x.1.isSome)
      && decide ((e :: es).length + ([] : List Keyword).length + (if ([] : List Keyword).isEmpty then 0 else 1) < 30)) = true := by rfl)
    (hline : (apos.endLine == cpos.line) = true := by rfl) (hs : starEach (e :: es) X.env = (false, eval e X.env) :: starEach es X.env := by rfl) (hplain : (backTo cpos (starEach es X.env)).any (·.1) = false := by rfl) :
    PE X (.Call (.Attribute o name apos) (e :: es) [] cpos) (tBM K T r to t) := by
  subst hK
  exact pe_bm pa slot hty hm ho ha hbase hfew hline hs hplain
end Gr

set_option Elab.async false
set_option linter.all false
set_option pp.deepTerms false
set_option pp.maxSteps 3000
set_option maxRecDepth 100000
set_option maxHeartbeats 8000000
set_option exponentiation.threshold 3000
namespace Gr
open PySem PySem.Spec PyProof.Rows L2
open Pm (Rn)
open Few
theorem slA_of {K : PySem.W.Frag} {H : Hp} {a : Addr} {xs : List V} {lo hi : Option Int} {Q : VK} (h : H a = some (.tup xs)) (q : ∀ S H', Same H H' → H' S = some (.tup (cutV xs lo hi)) → Q (.ref S) H') : rSlA K (.ref a) lo hi H Q := by
  refine ⟨a, xs, rfl, SqT.of h, fun hw => q a H (Same.refl H) ?_, fun _ S hS => q S _ (Same.new hS) upd_same⟩
  rw [h]
  unfold cutV
  rw [hw.1, hw.2, Nat.sub_zero, List.drop_zero, List.take_of_length_le (Nat.le_refl _)]
theorem rns_updL {H : Hp} {D : Addr} {us : List V} {o : HO} {xs : List V} {rs : List Rn} (hD : H D = some (.lst us)) (h : Paired (RnAt H) xs rs) : Paired (RnAt (upd H D o)) xs rs :=
  L2.Paired.mapP h fun _ _ ⟨b, e, h⟩ => ⟨b, e, by rw [upd_ne (ne_of h hD (fun z => nomatch z))]; exact h⟩
theorem paired_cut {α β : Type} {R : α → β → Prop} {Y : List β} {r : β} : ∀ {ys : List α}, Paired R ys (Y ++ [r]) → ∃ ys0 y, ys = ys0 ++ [y] ∧ Paired R ys0 Y ∧ R y r := by
  induction Y with
  | nil =>
    intro ys h
    cases h with
    | cons a t => cases t; exact ⟨[], _, rfl, .nil, a⟩
  | cons y Y ih =>
    intro ys h
    cases h with
    | cons a t =>
      obtain ⟨ys0, x, rfl, p, q⟩ := ih t
      exact ⟨_ :: ys0, x, rfl, .cons a p, q⟩
def toRn (l : List Int) : Rn := (l.getD 0 0, l.getD 1 0, l.getD 2 0)
theorem none_by {H H' : Hp} {p : Addr} (s : Same H H') (h : H' p = none) : H p = none := by
  cases e : H p with
  | none => rfl
  | some o => rw [s _ _ e] at h; cases h
theorem rn_rowW {H : Hp} {x : V} {r : Rn} (h : RnAt H x r) : RowAt H x [r.1, r.2.1, r.2.2] := h
theorem sortRn {K : PySem.W.Frag} {H : Hp} {a : Addr} {xs : List V} {ws : List Rn} {Q : VK} (ha : H a = some (.lst xs)) (hX : Paired (RnAt H) xs ws) (q : ∀ p H' ws', H p = none → Same H H' → RowsAt H' p ws' → ws'.Perm ws → LexS ws' → Q (.ref p) H') : rSortedTs K [.ref a] H Q := by
  have krow : ∀ {x : V} {r : Rn}, RnAt H x r → kRow H x = [r.1, r.2.1, r.2.2] := fun h => kRow_at (rn_rowW h)
  have each : ∀ x ∈ xs, ∃ r, RnAt H x r := fun x hx => by
    obtain ⟨i, hi, e⟩ := List.getElem_of_mem hx
    obtain ⟨r, _, h⟩ := paired_at hX (show xs[i]? = some x by rw [List.getElem?_eq_getElem hi, e])
    exact ⟨r, h⟩
  have maps : ∀ {xs : List V} {ws : List Rn}, Paired (RnAt H) xs ws → xs.map (fun x => toRn (kRow H x)) = ws := fun {xs ws} h => by
    induction h with
    | nil => rfl
    | cons r t ih => rw [List.map_cons, krow r, ih]; rfl
  have back : ∀ ys : List V, (∀ y ∈ ys, y ∈ xs) → Paired (RnAt H) ys (ys.map fun x => toRn (kRow H x)) := by
    intro ys
    induction ys with
    | nil => intro _; exact .nil
    | cons y ys ih =>
      intro h
      obtain ⟨r, hr⟩ := each y (h y (by simp))
      rw [List.map_cons]
      refine .cons ?_ (ih fun z hz => h z (List.mem_cons_of_mem _ hz))
      rw [krow hr]
      exact hr
  refine ⟨a, xs, kRow H, 3, rfl, SqL.of ha, by decide, fun x hx => ?_, fun ys p pm pw hp => ?_⟩
  · obtain ⟨r, hr⟩ := each x hx
    have e := krow hr
    obtain ⟨b, e2, h⟩ := hr
    exact ⟨by rw [e]; rfl, b, e2, by rw [e]; exact h⟩
  · refine q p _ (ys.map fun x => toRn (kRow H x)) hp (Same.new hp) ⟨ys, upd_same, rns_mono (Same.new hp) (back ys fun y hy => pm.mem_iff.mp hy)⟩ ?_ ?_
    · have := pm.map (fun x => toRn (kRow H x))
      rw [maps hX] at this
      exact this
    · unfold LexS
      rw [List.pairwise_map]
      refine pw.imp_of_mem fun {x y} hx hy l => ?_
      obtain ⟨r, hr⟩ := each x (pm.mem_iff.mp hx)
      obtain ⟨s, hs⟩ := each y (pm.mem_iff.mp hy)
      rw [krow hr, krow hs] at *
      exact l
def spHome : Sp := fun vs H Q _ => ∃ (c g : Int) (x : V) (r : Rn), vs = [.int c, x, .int g] ∧ RnAt H x r ∧ 1 ≤ c ∧ ∀ T H', Same H H' → H' T = some (.tup [.int (homeW c g r).1, .int (homeW c g r).2.1, .int (homeW c g r).2.2]) → Q (.ref T) H'
def spWinOf : Sp := fun vs H Q _ => ∃ (c : Int) (a : Addr) (Z : List Rn), vs = [.int c, .ref a] ∧ RnsT H a Z ∧ Pm.Can c Z ∧ Z.length ≤ 2000 ∧ ∀ L H' ws, H L = none → Same H H' → RowsAt H' L ws → FewL c (Pm.F c Z) ws → CovL c (Pm.F c Z) ws → ws.length ≤ Z.length → Q (.ref L) H'
section
variable {P : Program} {w : World} {K : PySem.W.Frag} {mg : Str → Option Value} {base : Heap} {tC : Tok}
theorem ok_home {f : Addr} {fd : FuncData} (B : Blt mg tC) (Dwindow_at_home : Def K mg "window_at_home" s_window_at_home ["cycle", "window", "greatest"] f fd) : FnOk P w K mg base CX0 1 f fd ["cycle", "window", "greatest"] spHome := by
  refine Dwindow_at_home.F.ok scwindow_at_home (fun vs H Q E h => ?_) (fun cdv A outer s H vs Q E hr h => ⟨_, (pss_cons (ps_asg (pv 1) (pg_tup rfl (pgs_cons (pg_name (i := 3) scwindow_at_home.nd rfl (Or.inl rfl)) (pgs_cons (pg_name (i := 4) scwindow_at_home.nd rfl (Or.inl rfl)) (pgs_cons (pg_name (i := 5) scwindow_at_home.nd rfl (Or.inl rfl)) pgs_nil)))))
  (pss_cons (ps_if (pt_cmpR op_eq (pv 5) (pv 2) (nomark _))
   (pss_one (ps_ret (pe_tup (pa_cons pe_int (pa_cons (pe_op op_sub (pv 0) pe_int) (pa_cons (pv 5) pa_nil))))))
   pss_nil)
  (pss_one (ps_ret (pe_tup (pa_cons (pe_op op_modN (pv 3) (pv 0)) (pa_cons (pe_op op_sub (pe_op op_add (pe_op op_modN (pv 3) (pv 0)) (pv 4)) (pv 3)) (pa_cons (pv 5) pa_nil)))))))), ?_⟩)
  · obtain ⟨c, g, x, r, rfl, _⟩ := h; rfl
  · obtain ⟨c, g, x, ⟨f, l, t⟩, rfl, ⟨a, rfl, ha⟩, c1, q⟩ := h
    have three : 3 ≤ sizeLine := by decide
    refine ⟨_, rfl, a, _, rfl, SqT.of ha, rfl, _, _, rfl, _, _, rfl, _, _, rfl, rfl, ?_⟩
    refine ⟨_, rfl, _, rfl, rfl, _, rfl, ?_⟩
    by_cases k : t = g
    · refine iteY (congrArg V.int k) ?_
      refine ⟨_, rfl, _, _, rfl, rfl, _, rfl, three, fun T hT => ?_⟩
      refine q T _ (Same.new hT) ?_
      unfold homeW
      rw [if_pos k, upd_same]
    · refine iteN (fun e => k (V.int.inj e)) ?_
      refine ⟨_, rfl, _, rfl, _, _, rfl, rfl, (by show c ≠ 0; omega), _, rfl, _, rfl, _, _, rfl, rfl, (by show c ≠ 0; omega), _, rfl, _, _, rfl, rfl, _, rfl, _, _, rfl, rfl, _, rfl, three, fun T hT => ?_⟩
      refine q T _ (Same.new hT) ?_
      unfold homeW
      rw [if_neg k, upd_same]
      simp only [Int.fmod_eq_emod_of_nonneg _ (show 0 ≤ c by omega)]
theorem ok_winof {f f1 f2 f3 : Addr} {fd fd1 fd2 fd3 : FuncData} (B : Blt mg tC) (Dwindows_of : Def K mg "windows_of" s_windows_of ["cycle", "runs"] f fd) (Drun_pairs : Def K mg "run_pairs" s_run_pairs ["cycle", "runs"] f1 fd1) (Dmoved : Def K mg "moved" s_moved ["run", "ticks"] f2 fd2) (Dwindow_at_home : Def K mg "window_at_home" s_window_at_home ["cycle", "window", "greatest"] f3 fd3) : FnOk P w K mg base CX0 3 f fd ["cycle", "runs"] spWinOf := by
  have Grun_pairs := ok_pairs (P := P) (w := w) (base := base) B Drun_pairs Dmoved
  have Gmoved := ok_moved (P := P) (w := w) (base := base) B Dmoved
  have Gwindow_at_home := ok_home (P := P) (w := w) (base := base) B Dwindow_at_home
  refine Dwindows_of.F.ok scwindows_of (fun vs H Q E h => ?_) (fun cdv A outer s H vs Q E hr h => ⟨_, (pss_cons (ps_setLc (i := 2) (own := [("before", 3), ("run", 4)]) (g := (gTup K 2 (gCons (gName 3) (gCons (gName 4) gNil)))) (tt := tYes) rfl scwindows_of.nd rfl rfl (sw_true rfl rfl rfl (by decide +kernel)) (pi_list (pe_call Grun_pairs (hr.mono (by decide)) (by rfl) Drun_pairs.g Drun_pairs.F.kp Drun_pairs.b .nil pass0 (pa_cons (pv 0) (pa_cons (pv 1) pa_nil)))) (blkOk_by (N := ["cycle", "runs", "tops", "before", "run", "greatest", "at", "turned", "found", "begun", "first", "last", "arrival", "top", "travel", "goes_on", "window"]) (sc := defScope s_windows_of) (by decide +kernel)) (fun _ _ _ _ _ => (pg_tup rfl (pgs_cons (pg_name (i := 3) scwindows_of.nd rfl (Or.inl rfl)) (pgs_cons (pg_name (i := 4) scwindows_of.nd rfl (Or.inl rfl)) pgs_nil)))) (fun _ _ _ _ _ => pts_nil) (fun _ _ _ _ _ => (pe_op op_sub (pe_op op_sub (pe_ix (r := rIxT K) (by exact ix_tup) (pv 4) pe_int (fun _ _ => rfl)) (pe_ix (r := rIxT K) (by exact ix_tup) (pv 3) pe_int (fun _ _ => rfl))) pe_int)))
  (pss_cons (ps_set (i := 5) scwindows_of.nd rfl (Or.inr rfl) (pe_callB (cr_max rfl) (by rfl) B.n_max (by decide +kernel) (pa_cons (pv 2) pa_nil)))
  (pss_cons (ps_set (i := 6) scwindows_of.nd rfl (Or.inl rfl) (pe_bm PySem.F.plainAttrs_list PySem.F.slot_list_index PySem.F.type_list_index mt_index (pv 2) (pa_cons (pv 5) pa_nil)))
  (pss_cons (ps_set (i := 7) scwindows_of.nd rfl (Or.inl rfl) (pe_op op_cat (pe_callTy call_list_of (by rfl) B.n_list (by decide +kernel) (pa_cons (pe_slice sl_tupA (pv 1) (po_some (pv 6)) po_none) pa_nil)) (pe_lc (own := [("run", 4)]) (g := (gName 4)) (tt := tYes) rfl scwindows_of.nd (pi_tup (pe_slice sl_tupA (pv 1) po_none (po_some (pv 6)))) (blkOk_by (N := ["cycle", "runs", "tops", "before", "run", "greatest", "at", "turned", "found", "begun", "first", "last", "arrival", "top", "travel", "goes_on", "window"]) (sc := defScope s_windows_of) (by decide +kernel)) (fun _ _ _ _ _ => (pg_name (i := 4) scwindows_of.nd rfl (Or.inl rfl))) (fun _ _ _ _ _ => pts_nil) (fun _ _ _ _ _ => (pe_call Gmoved (hr.mono (by decide)) (by rfl) Dmoved.g Dmoved.F.kp Dmoved.b .nil pass0 (pa_cons (pv 4) (pa_cons (pv 0) pa_nil)))))))
  (pss_cons (ps_par (i := 8) (j := 9) rfl scwindows_of.nd rfl rfl (by decide) rfl rfl (pa_cons (pe_lst pa_nil) (pa_cons (pe_lst pa_nil) pa_nil)) (by rfl))
  (pss_cons (ps_for PassesOwn.never rfl (pi_zip (by rfl) B.n_zip (pa_cons (pv 7) (pa_cons (pe_op op_cat (pe_slice sl_list (pv 2) (po_some (pv 6)) po_none) (pe_slice sl_list (pv 2) po_none (po_some (pv 6)))) pa_nil))) (pg_tup rfl (pgs_cons (pg_tup rfl (pgs_cons (pg_name (i := 10) scwindows_of.nd rfl (Or.inl rfl)) (pgs_cons (pg_name (i := 11) scwindows_of.nd rfl (Or.inl rfl)) (pgs_cons (pg_name (i := 12) scwindows_of.nd rfl (Or.inl rfl)) pgs_nil)))) (pgs_cons (pg_name (i := 13) scwindows_of.nd rfl (Or.inl rfl)) pgs_nil)))
   (pss_cons (ps_while PassesOwn.never (PW.pt (pw_and (pt_truth (pv 9) (by intro _; rfl)) (pw_and1 (pt_cmpR op_lt (pe_ix ix_tup (pe_ix ix_list (pv 9) (pe_un un_neg pe_int) (fun _ _ => rfl)) pe_int (fun _ _ => rfl)) (pv 13) (nomark _)))))
   (pss_one (ps_expr (pe_bm PySem.F.plainAttrs_list PySem.F.slot_list_append PySem.F.type_list_append mt_append (pv 8) (pa_cons (pe_bm0 PySem.F.plainAttrs_list PySem.F.slot_list_pop PySem.F.type_list_pop mt_pop (pv 9)) pa_nil)))))
  (pss_cons (ps_set (i := 14) scwindows_of.nd rfl (Or.inl rfl) (pe_op op_sub (pv 12) (pv 10)))
  (pss_cons (ps_set (i := 15) scwindows_of.nd rfl (Or.inl rfl) (pe_and (pe_cmpR op_gt (pe_callB call_len_seq (by rfl) B.len PySem.boot_len (pa_cons (pv 9) pa_nil)) pe_int (nomark _)) (pe_one (pe_cmpR op_eq (pe_ix ix_tup (pe_ix ix_list (pv 9) (pe_un un_neg pe_int) (fun _ _ => rfl)) pe_int (fun _ _ => rfl)) (pv 14) (nomark _)))))
  (pss_one (ps_expr (pe_bm PySem.F.plainAttrs_list PySem.F.slot_list_append PySem.F.type_list_append mt_append (pv 9) (pa_cons (pe_tup (pa_cons (pe_ifExp (pt_val (pv 15)) (pe_ix ix_tup (pe_bm0 PySem.F.plainAttrs_list PySem.F.slot_list_pop PySem.F.type_list_pop mt_pop (pv 9)) pe_int (fun _ _ => rfl)) (pv 10)) (pa_cons (pv 11) (pa_cons (pv 14) pa_nil)))) pa_nil))))))))
  (pss_one (ps_ret (pe_callB cr_sortedTs (by rfl) B.n_sorted (by decide +kernel) (pa_cons (pe_lc (own := [("window", 16)]) (g := (gName 16)) (tt := tYes) rfl scwindows_of.nd (pi_list (pe_op op_cat (pv 8) (pv 9))) (blkOk_by (N := ["cycle", "runs", "tops", "before", "run", "greatest", "at", "turned", "found", "begun", "first", "last", "arrival", "top", "travel", "goes_on", "window"]) (sc := defScope s_windows_of) (by decide +kernel)) (fun _ _ _ _ _ => (pg_name (i := 16) scwindows_of.nd rfl (Or.inl rfl))) (fun _ _ _ _ _ => pts_nil) (fun _ _ _ _ _ => (pe_call Gwindow_at_home (hr.mono (by decide)) (by rfl) Dwindow_at_home.g Dwindow_at_home.F.kp Dwindow_at_home.b .nil pass0 (pa_cons (pv 0) (pa_cons (pv 16) (pa_cons (pv 5) pa_nil)))))) pa_nil)))))))))), ?_⟩)
  · obtain ⟨c, a, Z, rfl, _⟩ := h; rfl
  · obtain ⟨c, a, Z, rfl, hZ, can, len, q⟩ := h
    have ok := can.1
    have c1 := ok.c1
    have ne := ok.ne
    have three : 3 ≤ sizeLine := by decide
    obtain ⟨zl, hzl⟩ : ∃ l, Z.getLast? = some l := by
      rcases List.eq_nil_or_concat Z with z | ⟨A, b, z⟩
      · exact absurd z ne
      · exact ⟨b, by rw [z, List.concat_eq_append, List.getLast?_concat]⟩
    have prsZ : (prs c Z).map (fun q : Rn × Rn => q.2.2.2 - q.1.2.1 - 1) = topsF (Pm.mv (-c) zl) Z := by
      unfold prs
      rw [tops_prs, List.getLastD_eq_getLast?, hzl]; rfl
    obtain ⟨ts, hts⟩ : ∃ ts, ts = topsF (Pm.mv (-c) zl) Z := ⟨_, rfl⟩
    have tl : ts.length = Z.length := by rw [hts, topsF_len]
    have lz1 : 1 ≤ Z.length := by
      cases Z with
      | nil => exact absurd rfl ne
      | cons _ _ => simp
    refine ⟨_, rfl, _, rfl, c, a, Z, rfl, hZ, ne, by omega, fun p ps H1 s1 e1 hP => ?_⟩
    refine ⟨p, rfl, ⟨_, SqL.of e1⟩, fun D hD => ?_⟩
    have lp := paired_len hP
    have lprs : (prs c Z).length = Z.length := by
      have := congrArg List.length prsZ
      rw [List.length_map, topsF_len] at this
      exact this
    refine lc_list (xs := ps) (fun i H' => Same H1 H' ∧ H' D = some (.lst (((prs c Z).take i).map (fun q : Rn × Rn => q.2.2.2 - q.1.2.1 - 1) |>.map V.int))) ⟨Same.new hD, upd_same⟩ (fun i H' _ ⟨s, _⟩ => SqL.of (s _ _ e1)) ?_ ?_
    · rintro i x H2 hx ⟨s2, eD⟩
      obtain ⟨⟨b, r⟩, hg, T, u, v, rfl, hT, ⟨bu, rfl, hbu⟩, ⟨bv, rfl, hbv⟩⟩ := paired_at hP hx
      have hi := (List.getElem?_eq_some_iff.mp hg).1
      refine ⟨T, _, rfl, SqT.of (s2 _ _ hT), rfl, _, _, rfl, _, _, rfl, rfl, rfl, ?_⟩
      refine ⟨_, rfl, bv, _, _, _, rfl, rfl, SqT.of (s2 _ _ hbv), atI_nat (j := 2) rfl, _, rfl, bu, _, _, _, rfl, rfl, SqT.of (s2 _ _ hbu), atI_nat (j := 1) rfl, _, _, rfl, rfl, _, _, rfl, rfl, ?_⟩
      refine ⟨_, eD, by simp only [List.length_map, List.length_take]; exact smallL (by omega), same_upd s2 hD, ?_⟩
      rw [upd_same, List.take_add_one, hg, List.map_append, List.map_append]; rfl
    · rintro H2 ⟨s2, eD⟩
      rw [List.take_of_length_le (by omega), prsZ, ← hts] at eD
      have hZ2 := hZ.mono (s1.trans s2)
      show gName 2 (V.ref D) [some (.int c), some (.ref a), none, none, none, none, none, none, none, none, none, none, none, none, none, none, none] H2 _
      refine ⟨_, rfl, D, ts, rfl, SqL.of eD, by omega, fun g hg hge => ?_⟩
      show gName 5 (V.int g) [some (.int c), some (.ref a), some (.ref D), none, none, none, none, none, none, none, none, none, none, none, none, none, none] H2 _
      obtain ⟨pre, g', post, ep, eg, no⟩ := Pm.first_of (p := fun x : Int => x = g) (l := ts) ⟨g, hg, rfl⟩
      subst eg
      have lpre : pre.length < ts.length := by rw [ep]; simp
      have atp : (ts.map V.int)[pre.length]? = some (.int g') := by rw [ep, List.getElem?_map, List.getElem?_append_right (Nat.le_refl _), Nat.sub_self]; rfl
      refine ⟨_, rfl, .inl ⟨rfl, _, SqL.of eD⟩, _, rfl, D, ts.map V.int, .int g', pre.length, .int g', rfl, rfl, SqL.of eD, rfl, by rw [List.all_map]; exact List.all_eq_true.mpr fun _ _ => rfl, atp, by simp [eqV], fun m z' hm hz => ?_, ?_⟩
      · rw [ep, List.getElem?_map, List.getElem?_append_left hm] at hz
        have hm' := List.getElem?_eq_getElem hm
        rw [hm'] at hz
        obtain rfl := Option.some.inj hz
        have := no _ (List.getElem_mem hm)
        simp [eqV, this]
      show gName 6 (V.int ((pre.length : Nat) : Int)) [some (.int c), some (.ref a), some (.ref D), none, none, some (.int g'), none, none, none, none, none, none, none, none, none, none, none] H2 _
      obtain ⟨k, hk⟩ : ∃ k, k = pre.length := ⟨_, rfl⟩
      rw [← hk]
      obtain ⟨xs, hxs, hXs⟩ := hZ2
      have lxs := paired_len hXs
      refine ⟨_, rfl, _, rfl, _, rfl, ?_⟩
      have kz : k < Z.length := by omega
      unfold tNoPart
      refine slA_of hxs fun S1 H3 s3 eS1 => ?_
      rw [cut_lo _ k (by omega)] at eS1
      refine ⟨S1, _, rfl, .inr (SqT.of eS1), fun M hM => ?_⟩
      have sM := Same.new hM (o := .lst (xs.drop k))
      have eM : (upd H3 M (.lst (xs.drop k))) M = some (.lst (xs.drop k)) := upd_same
      have s2M := s3.trans sM
      generalize upd H3 M (.lst (xs.drop k)) = H4 at sM eM s2M ⊢
      have hxs4 := s2M _ _ hxs
      have hX4 := rns_mono s2M hXs
      refine ⟨_, rfl, _, rfl, _, rfl, slA_of hxs4 fun S2 H5 s5 eS2 => ⟨S2, rfl, ⟨_, SqT.of eS2⟩, fun D2 hD2 => ?_⟩⟩
      rw [cut_hi _ k (by omega)] at eS2
      have hX5 := rns_mono s5 hX4
      have hXt : Paired (RnAt H5) (xs.take k) (Z.take k) := by
        have key : ∀ {α β : Type} {R : α → β → Prop} {xs : List α} {ys : List β}, Paired R xs ys → ∀ k : Nat, Paired R (xs.take k) (ys.take k) := by
          intro α β R xs ys h
          induction h with
          | nil => intro k; rw [List.take_nil, List.take_nil]; exact .nil
          | cons a t ih =>
            intro k
            cases k with
            | zero => exact .nil
            | succ k => exact .cons a (ih k)
        exact key hX5 k
      refine lc_tup (xs := xs.take k) (fun i H' => Same H5 H' ∧ ∃ acc, H' D2 = some (.lst acc) ∧ Paired (RnAt H') acc (((Z.take k).take i).map (Pm.mv c))) ⟨Same.new hD2, [], upd_same, .nil⟩ (fun i H' _ ⟨s, _⟩ => SqT.of (s _ _ ?_)) ?_ ?_
      · exact eS2
      · rintro i x H6 hx ⟨s6, acc, eD2, hA⟩
        obtain ⟨r, hg, bb, rfl, hb⟩ := paired_at hXt hx
        have hi := (List.getElem?_eq_some_iff.mp hg).1
        have la := paired_len hA
        rw [List.length_map, List.length_take] at la
        rw [List.length_take] at hi
        refine ⟨rfl, _, rfl, _, rfl, bb, c, [r.1, r.2.1, r.2.2], rfl, s6 _ _ hb, (by simp), fun b' H7 s7 nb hb7 => ?_⟩
        have eD7 := s7 _ _ eD2
        refine ⟨acc, eD7, smallL (by omega), same_upd (s6.trans s7) hD2, acc ++ [.ref b'], upd_same, ?_⟩
        rw [List.take_add_one, hg, List.map_append]
        refine paired_snoc (L2.Paired.mapP (rns_mono s7 hA) fun _ _ ⟨b, e, h⟩ => ⟨b, e, by rw [upd_ne (ne_of h eD7 (fun z => nomatch z))]; exact h⟩) ⟨b', rfl, ?_⟩
        rw [upd_ne (ne_of hb7 eD7 (fun z => nomatch z))]; exact hb7
      · rintro H6 ⟨s6, acc, eD2, hA⟩
        have lxt : (xs.take k).length = k := by rw [List.length_take]; omega
        rw [lxt, List.take_of_length_le (show (Z.take k).length ≤ k by rw [List.length_take]; omega)] at hA
        have lA := paired_len hA
        rw [List.length_map, List.length_take] at lA
        have s46 := s5.trans s6
        refine ⟨M, D2, _, _, rfl, rfl, s46 _ _ eM, eD2, by rw [List.length_drop]; exact Nat.le_of_lt (smallL (by omega)), fun TT hTT => ?_⟩
        have sTT := Same.new hTT (o := .lst (xs.drop k ++ acc))
        have hXd : Paired (RnAt H6) (xs.drop k) (Z.drop k) := paired_dropT (rns_mono s46 hX4) k
        obtain ⟨R, hR⟩ : ∃ R, R = Z.drop k ++ (Z.take k).map (Pm.mv c) := ⟨_, rfl⟩
        have hRv : Paired (RnAt (upd H6 TT (.lst (xs.drop k ++ acc)))) (xs.drop k ++ acc) R := by rw [hR]; exact rns_mono sTT (paired_appT hXd hA)
        have eTT : (upd H6 TT (.lst (xs.drop k ++ acc))) TT = some (.lst (xs.drop k ++ acc)) := upd_same
        have s27 := s2M.trans (s46.trans sTT)
        generalize upd H6 TT (.lst (xs.drop k ++ acc)) = H7 at sTT hRv eTT s27 ⊢
        obtain ⟨rv, hrv⟩ : ∃ rv, rv = xs.drop k ++ acc := ⟨_, rfl⟩
        rw [← hrv] at eTT hRv
        have eD7 := s27 _ _ eD
        show gName 7 (V.ref TT) [some (.int c), some (.ref a), some (.ref D), none, none, some (.int g'), some (.int (k : Int)), none, none, none, none, none, none, none, none, none, none] H7 _
        refine ⟨Nat.zero_le _, fun Fo hFo => ⟨Nat.zero_le _, fun Bg hBg => ⟨_, _, rfl, ?_⟩⟩⟩
        have sFo := Same.new hFo (o := .lst [])
        have sBg := Same.new hBg (o := .lst [])
        have nFB : Bg ≠ Fo := fun e => by rw [e, upd_same] at hBg; cases hBg
        have hBg7 : H7 Bg = none := by rw [upd_ne nFB] at hBg; exact hBg
        have eFo : (upd (upd H7 Fo (.lst [])) Bg (.lst [])) Fo = some (.lst []) := sBg _ _ upd_same
        have eBg : (upd (upd H7 Fo (.lst [])) Bg (.lst [])) Bg = some (.lst []) := upd_same
        have s79 := sFo.trans sBg
        generalize upd (upd H7 Fo (.lst [])) Bg (.lst []) = H9 at eFo eBg s79 ⊢
        show (_ : Ends).nx [some (.int c), some (.ref a), some (.ref D), none, none, some (.int g'), some (.int (k : Int)), some (.ref TT), some (.ref Fo), some (.ref Bg), none, none, none, none, none, none, none] H9
        refine ⟨_, rfl, _, rfl, _, rfl, _, rfl, ?_⟩
        refine ⟨D, _, rfl, SqL.of (s79 _ _ eD7), fun S3 hS3 => ?_⟩
        rw [cut_lo _ k (by rw [List.length_map]; omega)]
        have m3 := Same.new hS3 (o := .lst ((ts.map V.int).drop k))
        refine ⟨_, rfl, _, rfl, _, rfl, D, _, rfl, SqL.of (m3 _ _ (s79 _ _ eD7)), fun S4 hS4 => ?_⟩
        rw [cut_hi _ k (by rw [List.length_map]; omega)]
        have m4 := Same.new hS4 (o := .lst ((ts.map V.int).take k))
        refine ⟨S3, S4, _, _, rfl, rfl, m4 _ _ upd_same, upd_same, ?_, fun S5 hS5 => ?_⟩
        · simp only [List.length_drop, List.length_take, List.length_map]; exact Nat.le_of_lt (smallL (by omega))
        have m5 := Same.new hS5 (o := .lst ((ts.map V.int).drop k ++ (ts.map V.int).take k))
        have eS5 : (upd (upd (upd H9 S3 (.lst ((ts.map V.int).drop k))) S4 (.lst ((ts.map V.int).take k))) S5 (.lst ((ts.map V.int).drop k ++ (ts.map V.int).take k))) S5 = some (.lst ((ts.drop k ++ ts.take k).map V.int)) := by
          rw [upd_same, List.map_append, List.map_drop, List.map_take]
        have s9A := m3.trans (m4.trans m5)
        generalize upd (upd (upd H9 S3 (.lst ((ts.map V.int).drop k))) S4 (.lst ((ts.map V.int).take k))) S5 (.lst ((ts.map V.int).drop k ++ (ts.map V.int).take k)) = HA at eS5 s9A ⊢
        have eFoA := s9A _ _ eFo
        have eBgA := s9A _ _ eBg
        have s7A := s79.trans s9A
        have eTTA := s7A _ _ eTT
        have hRvA := rns_mono s7A hRv
        refine ⟨TT, S5, rv, _, rfl, SqL.of eTTA, SqL.of eS5, ?_⟩
        have nS5F : S5 ≠ Fo := fun e => by rw [e] at hS5; have := (m3.trans m4) _ _ eFo; rw [this] at hS5; cases hS5
        have nS5B : S5 ≠ Bg := fun e => by rw [e] at hS5; have := (m3.trans m4) _ _ eBg; rw [this] at hS5; cases hS5
        rw [← hk] at atp
        have tsk : ts[k]? = some g' := by
          rw [List.getElem?_map] at atp
          cases h : ts[k]? with
          | none => rw [h] at atp; cases atp
          | some v => rw [h] at atp; have := V.int.inj (Option.some.inj atp); rw [this]
        obtain ⟨eb, ch0, end0, De, top⟩ := chain_turn ok hzl (g := g') (k := k) (by rw [← hts]; exact hge) (by rw [← hts]; exact tsk)
        rw [← hts, ← hR] at ch0
        rw [← hR] at end0
        obtain ⟨Tr, hTr⟩ : ∃ Tr, Tr = ts.drop k ++ ts.take k := ⟨_, rfl⟩
        rw [← hTr] at ch0 eS5
        have lR : R.length = Z.length := by rw [hR]; simp only [List.length_append, List.length_drop, List.length_map, List.length_take]; omega
        have lT : Tr.length = Z.length := by rw [← chain_len ch0]; exact lR
        have lrv := paired_len hRvA
        have mo := ok.mono
        refine for_it (walk_zip (n := Z.length) (xs := rv) (ys := Tr.map V.int) (by rw [List.length_map]; omega)) (fun j σ H' => ∃ (fo bo : List V) (foR bgR : List Rn) (e : Int) (y10 y11 y12 y13 y14 y15 : Option V), σ = [some (.int c), some (.ref a), some (.ref D), none, none, some (.int g'), some (.int (k : Int)), some (.ref TT), some (.ref Fo), some (.ref Bg), y10, y11, y12, y13, y14, y15, none] ∧ Same H7 H' ∧ H' S5 = some (.lst (Tr.map V.int)) ∧ H' Fo = some (.lst fo) ∧ H' Bg = some (.lst bo) ∧ Paired (RnAt H') fo foR ∧ Paired (RnAt H') bo bgR ∧ Stk (Pm.F c Z) g' eb e foR bgR ∧ eb ≤ e ∧ ChainT (Pm.F c Z) e (R.drop j) (Tr.drop j) ∧ endC e (R.drop j) = eb + c ∧ foR.length + bgR.length ≤ j)
          ⟨[], [], [], [], eb, _, _, _, _, _, _, rfl, s7A, eS5, eFoA, eBgA, .nil, .nil, Stk.zero _ _ _, Int.le_refl _, ch0, end0, Nat.le_refl _⟩ (fun j σ H' _ ⟨_, _, _, _, _, _, _, _, _, _, _, _, s, s5, _⟩ => ⟨SqL.of (s _ _ eTT), SqL.of s5⟩) ?_ ?_
        · rintro j x σ Ha Hb hj ⟨fo, bo, foR, bgR, e, y10, y11, y12, y13, y14, y15, rfl, sj, e5, eF, eB, hF, hB, stk, ebe, ch, en, ln⟩ ⟨T0, x0, x1, rfl, hT0, rfl, h0, h1⟩
          replace h0 : rv[j]? = some x0 := h0
          replace h1 : (Tr.map V.int)[j]? = some x1 := h1
          obtain ⟨⟨f, l, ar⟩, hg, bb, rfl, hb⟩ := paired_at (rns_mono sj hRv) h0
          obtain ⟨tv, htv, rfl⟩ : ∃ tv, Tr[j]? = some tv ∧ x1 = .int tv := by
            rw [List.getElem?_map] at h1
            cases h : Tr[j]? with
            | none => rw [h] at h1; cases h1
            | some v => rw [h] at h1; exact ⟨v, rfl, (Option.some.inj h1).symm⟩
          have hd1 : R.drop j = (f, l, ar) :: R.drop (j + 1) := by
            have hl := (List.getElem?_eq_some_iff.mp hg).1
            rw [List.drop_eq_getElem_cons hl]
            rw [List.getElem?_eq_getElem hl] at hg
            rw [Option.some.inj hg]
          have hd2 : Tr.drop j = tv :: Tr.drop (j + 1) := by
            have hl := (List.getElem?_eq_some_iff.mp htv).1
            rw [List.drop_eq_getElem_cons hl]
            rw [List.getElem?_eq_getElem hl] at htv
            rw [Option.some.inj htv]
          rw [hd1, hd2] at ch
          rw [hd1] at en
          obtain ⟨blk, etv, ch'⟩ := ch
          simp only [] at blk ch'
          have sT := Same.new hT0 (o := .tup [.ref bb, .int tv])
          refine ⟨T0, _, rfl, SqT.of upd_same, rfl, _, _, rfl, bb, _, rfl, SqT.of (sT _ _ hb), rfl, _, _, rfl, _, _, rfl, _, _, rfl, rfl, _, _, rfl, rfl, ?_⟩
          have sjT := sj.trans sT
          have e5T := sT _ _ e5
          have eFT := sT _ _ eF
          have eBT := sT _ _ eB
          have hFT := rns_mono sT hF
          have hBT := rns_mono sT hB
          generalize upd Ha T0 (HO.tup [.ref bb, .int tv]) = Hc at sjT e5T eFT eBT hFT hBT ⊢
          refine ⟨fun m σ H' => ∃ (fo bo : List V) (foR bgR : List Rn), m = bgR.length ∧ σ = [some (.int c), some (.ref a), some (.ref D), none, none, some (.int g'), some (.int (k : Int)), some (.ref TT), some (.ref Fo), some (.ref Bg), some (.int f), some (.int l), some (.int ar), some (.int tv), y14, y15, none] ∧ Same H7 H' ∧ H' S5 = some (.lst (Tr.map V.int)) ∧ H' Fo = some (.lst fo) ∧ H' Bg = some (.lst bo) ∧ Paired (RnAt H') fo foR ∧ Paired (RnAt H') bo bgR ∧ Stk (Pm.F c Z) g' eb e foR bgR ∧ foR.length + bgR.length ≤ j, ⟨_, fo, bo, foR, bgR, rfl, rfl, sjT, e5T, eFT, eBT, hFT, hBT, stk, ln⟩, ?_⟩
          rintro m σ H2 ⟨fo, bo, foR, bgR, rfl, rfl, s2', e52, eF2, eB2, hF2, hB2, stk, ln⟩
          have lf := paired_len hF2
          have lbg := paired_len hB2
          obtain ⟨b, hb1, hb2⟩ : ∃ b : Bool, (b = true → ∃ B0 w, bgR = B0 ++ [w] ∧ w.2.2 < tv) ∧ (b = false → bgR = [] ∨ ∃ B0 w, bgR = B0 ++ [w] ∧ tv ≤ w.2.2) := by
            rcases List.eq_nil_or_concat bgR with z | ⟨B0, w, z⟩
            · exact ⟨false, fun h => (nomatch h), fun _ => .inl z⟩
            · rw [List.concat_eq_append] at z
              refine ⟨decide (w.2.2 < tv), fun h => ⟨B0, w, z, of_decide_eq_true h⟩, fun h => .inr ⟨B0, w, z, ?_⟩⟩
              have := of_decide_eq_false h
              omega
          refine (?_ : ∀ Rr : Bool → Hp → Prop, Rr b H2 → tAnd _ _ _ H2 Rr) _ ?_
          · intro Rr hRr
            rcases List.eq_nil_or_concat bgR with z | ⟨B0, w, z⟩
            · have bf : b = false := by
                cases b with
                | false => rfl
                | true =>
                  obtain ⟨B0, w, e, _⟩ := hb1 rfl
                  rw [z] at e; simp at e
              rw [bf] at hRr
              rw [z] at hB2
              cases hB2
              exact ⟨_, rfl, false, .inl ⟨[], SqL.of eB2, rfl⟩, iteF hRr⟩
            · rw [List.concat_eq_append] at z
              have be : decide (w.2.2 < tv) = b := by
                cases b with
                | true =>
                  obtain ⟨B1, w1, e, lt⟩ := hb1 rfl
                  rw [z] at e
                  have := (List.append_inj' e rfl).2
                  rw [(List.cons.inj this).1]
                  exact decide_eq_true lt
                | false =>
                  rcases hb2 rfl with e | ⟨B1, w1, e, lt⟩
                  · rw [z] at e; simp at e
                  · rw [z] at e
                    have := (List.append_inj' e rfl).2
                    rw [(List.cons.inj this).1]
                    exact decide_eq_false (by omega)
              rw [z] at hB2
              obtain ⟨b0v, yv, rfl, hB0, bw, rfl, hbw⟩ := paired_cut hB2
              refine ⟨_, rfl, true, .inl ⟨_, SqL.of eB2, by simp⟩, iteT ?_⟩
              refine ⟨_, rfl, 1, rfl, Bg, _, _, _, rfl, rfl, SqL.of eB2, atI_last _ _, bw, _, _, _, rfl, rfl, SqT.of hbw, atI_nat (j := 2) rfl, _, rfl, _, _, rfl, rfl, _, rfl, ?_⟩
              rw [be]
              exact hRr
          · cases b with
            | true =>
              obtain ⟨B0, w, rfl, lt⟩ := hb1 rfl
              obtain ⟨b0v, yv, rfl, hB0, bw, rfl, hbw⟩ := paired_cut hB2
              refine iteT ⟨fun σ' H' => ∃ m', m' < (B0 ++ [w]).length ∧ ∃ (fo bo : List V) (foR bgR : List Rn), m' = bgR.length ∧ σ' = [some (.int c), some (.ref a), some (.ref D), none, none, some (.int g'), some (.int (k : Int)), some (.ref TT), some (.ref Fo), some (.ref Bg), some (.int f), some (.int l), some (.int ar), some (.int tv), y14, y15, none] ∧ Same H7 H' ∧ H' S5 = some (.lst (Tr.map V.int)) ∧ H' Fo = some (.lst fo) ∧ H' Bg = some (.lst bo) ∧ Paired (RnAt H') fo foR ∧ Paired (RnAt H') bo bgR ∧ Stk (Pm.F c Z) g' eb e foR bgR ∧ foR.length + bgR.length ≤ j, fun _ _ h => h, ?_⟩
              have eF3 : (upd H2 Bg (.lst (b0v ++ [V.ref bw]).dropLast)) Fo = some (.lst fo) := by rw [upd_ne (fun e => nFB e.symm)]; exact eF2
              refine ⟨_, rfl, .inl ⟨rfl, _, SqL.of eF2⟩, _, rfl, .inl ⟨rfl, _, SqL.of eB2⟩, Bg, _, .ref bw, rfl, rfl, eB2, by simp, Fo, fo, .ref bw, rfl, rfl, eF3, smallL (by simp at ln; omega), ?_⟩
              rw [List.dropLast_concat] at eF3 ⊢
              have hF3 := rns_updL (o := .lst b0v) eB2 hF2
              have hB3 := rns_updL (o := .lst b0v) eB2 hB0
              have hw3 : RnAt (upd H2 Bg (.lst b0v)) (.ref bw) w := ⟨bw, rfl, by rw [upd_ne (ne_of hbw eB2 (fun z => nomatch z))]; exact hbw⟩
              refine ⟨_, ?_, fo ++ [.ref bw], b0v, foR ++ [w], B0, rfl, rfl, same_upd (same_upd s2' hBg7) ?_, ?_, upd_same, ?_, ?_, rns_updL eF3 hB3, stk.pop top (by rw [← etv]; exact lt), ?_⟩
              · simp
              · exact hFo
              · rw [upd_ne nS5F, upd_ne nS5B]; exact e52
              · rw [upd_ne nFB]; exact upd_same
              · refine paired_snoc (rns_updL eF3 hF3) ?_
                obtain ⟨b', e', h'⟩ := hw3
                exact ⟨b', e', by rw [upd_ne (ne_of h' eF3 (fun z => nomatch z))]; exact h'⟩
              · simp at ln ⊢; omega
            | false =>
              refine iteF ?_
              have allg : ∀ w ∈ bgR, tv ≤ w.2.2 := by
                rcases hb2 rfl with z | ⟨B0, w, z, ge⟩
                · rw [z]; exact fun w h => (List.not_mem_nil h).elim
                · intro u hu
                  have dc := stk.dec
                  rw [z] at hu dc
                  rcases List.mem_append.mp hu with q | q
                  · have := (List.pairwise_append.mp dc).2.2 u q w (by simp)
                    omega
                  · rw [List.mem_singleton.mp q]; exact ge
              refine ⟨_, rfl, _, rfl, _, _, rfl, rfl, ?_⟩
              have tge : ar - f ≤ g' := by
                have h1 := (blk.at' f (Int.le_refl _) blk.fl).2
                have h2 := top f
                omega
              have tle : ar - f ≤ tv := by
                have h1 := (blk.at' f (Int.le_refl _) blk.fl).2
                have h2 := blk.top f blk.ef blk.fl
                omega
              rcases List.eq_nil_or_concat bgR with z | ⟨B0, w, z⟩
              · subst z
                cases hB2
                refine ⟨_, rfl, Bg, _, rfl, .inl (SqL.of eB2), _, _, rfl, rfl, _, rfl, iteN (by simp) ?_⟩
                show gName 15 (V.bl false) [some (.int c), some (.ref a), some (.ref D), none, none, some (.int g'), some (.int (k : Int)), some (.ref TT), some (.ref Fo), some (.ref Bg), some (.int f), some (.int l), some (.int ar), some (.int tv), some (.int (ar - f)), y15, none] H2 _
                have bigs : ∀ u ∈ ([] : List Rn), Dn (Pm.F c Z) e ≤ u.2.2 ∧ ar - f < u.2.2 := fun u h => (List.not_mem_nil h).elim
                refine ⟨_, rfl, .inl ⟨rfl, _, SqL.of eB2⟩, _, rfl, false, rfl, iteF ⟨_, rfl, _, rfl, _, rfl, three, fun T hT => ?_⟩⟩
                have sT2 := Same.new hT (o := .tup [.int f, .int l, .int (ar - f)])
                have eBT2 := sT2 _ _ eB2
                have eFT2 := sT2 _ _ eF2
                refine ⟨Bg, _, _, rfl, rfl, eBT2, smallL (by simp), ?_⟩
                refine ⟨fo, ([] : List V) ++ [.ref T], foR, ([] : List Rn) ++ [(f, l, ar - f)], l + 1, _, _, _, _, _, _, rfl, same_upd (s2'.trans sT2) hBg7, ?_, ?_, upd_same, rns_updL eBT2 (rns_mono sT2 hF2), ?_, stk.push blk ebe De tge bigs, by have := blk.ef; have := blk.fl; omega, ch', en, by simp at ln ⊢; omega⟩
                · rw [upd_ne nS5B]; exact sT2 _ _ e52
                · rw [upd_ne (fun e => nFB e.symm)]; exact eFT2
                · refine paired_snoc .nil ⟨T, rfl, ?_⟩
                  rw [upd_ne (fun e => by rw [e, eB2] at hT; cases hT)]; exact upd_same
              · rw [List.concat_eq_append] at z
                subst z
                obtain ⟨b0v, yv, rfl, hB0, bw, rfl, hbw⟩ := paired_cut hB2
                have wge := allg w (by simp)
                refine ⟨_, rfl, Bg, _, rfl, .inl (SqL.of eB2), _, _, rfl, rfl, _, rfl, iteY (by simp) ?_⟩
                refine ⟨_, rfl, 1, rfl, Bg, _, _, _, rfl, rfl, SqL.of eB2, atI_last _ _, bw, _, _, _, rfl, rfl, SqT.of hbw, atI_nat (j := 2) rfl, _, rfl, rfl, ?_⟩
                by_cases wt : w.2.2 = ar - f
                · rw [decide_eq_true (congrArg V.int wt)]
                  show gName 15 (V.bl true) [some (.int c), some (.ref a), some (.ref D), none, none, some (.int g'), some (.int (k : Int)), some (.ref TT), some (.ref Fo), some (.ref Bg), some (.int f), some (.int l), some (.int ar), some (.int tv), some (.int (ar - f)), y15, none] H2 _
                  have eBp : (upd H2 Bg (.lst (b0v ++ [V.ref bw]).dropLast)) Bg = some (.lst b0v) := by rw [upd_same, List.dropLast_concat]
                  have hbwp : (upd H2 Bg (.lst (b0v ++ [V.ref bw]).dropLast)) bw = some (.tup (i3 w)) := by rw [upd_ne (ne_of hbw eB2 (fun z => nomatch z))]; exact hbw
                  refine ⟨_, rfl, .inl ⟨rfl, _, SqL.of eB2⟩, _, rfl, true, rfl, iteT ⟨_, rfl, .inl ⟨rfl, _, SqL.of eB2⟩, Bg, _, .ref bw, rfl, rfl, eB2, by simp, bw, _, _, _, rfl, rfl, SqT.of hbwp, atI_nat (j := 0) rfl, _, rfl, _, rfl, three, fun T hT => ?_⟩⟩
                  have sT2 := Same.new hT (o := .tup [.int w.1, .int l, .int (ar - f)])
                  have eBT2 := sT2 _ _ eBp
                  have hFp := rns_mono sT2 (rns_updL (o := .lst (b0v ++ [V.ref bw]).dropLast) eB2 hF2)
                  have hBp := rns_mono sT2 (rns_updL (o := .lst (b0v ++ [V.ref bw]).dropLast) eB2 hB0)
                  have eFp : (upd H2 Bg (.lst (b0v ++ [V.ref bw]).dropLast)) Fo = some (.lst fo) := by rw [upd_ne (fun e => nFB e.symm)]; exact eF2
                  have e5p : (upd H2 Bg (.lst (b0v ++ [V.ref bw]).dropLast)) S5 = some (.lst (Tr.map V.int)) := by rw [upd_ne nS5B]; exact e52
                  have s7p : Same H7 (upd H2 Bg (.lst (b0v ++ [V.ref bw]).dropLast)) := same_upd s2' hBg7
                  refine ⟨Bg, b0v, _, rfl, rfl, eBT2, smallL (by simp at ln lbg; omega), ?_⟩
                  refine ⟨fo, b0v ++ [.ref T], foR, B0 ++ [(w.1, l, ar - f)], l + 1, _, _, _, _, _, _, rfl, same_upd (s7p.trans sT2) hBg7, ?_, ?_, upd_same, rns_updL eBT2 hFp, ?_, stk.go blk (by omega) wt, by have := blk.ef; have := blk.fl; omega, ch', en, by simp at ln ⊢; omega⟩
                  · rw [upd_ne nS5B]; exact sT2 _ _ e5p
                  · rw [upd_ne (fun e => nFB e.symm)]; exact sT2 _ _ eFp
                  · refine paired_snoc (rns_updL eBT2 hBp) ⟨T, rfl, ?_⟩
                    rw [upd_ne (fun e => by rw [e, eBp] at hT; cases hT)]; exact upd_same
                · rw [decide_eq_false (fun e => wt (V.int.inj e))]
                  show gName 15 (V.bl false) [some (.int c), some (.ref a), some (.ref D), none, none, some (.int g'), some (.int (k : Int)), some (.ref TT), some (.ref Fo), some (.ref Bg), some (.int f), some (.int l), some (.int ar), some (.int tv), some (.int (ar - f)), y15, none] H2 _
                  have bigs : ∀ u ∈ (B0 ++ [w]), Dn (Pm.F c Z) e ≤ u.2.2 ∧ ar - f < u.2.2 := fun u hu => by
                    have := allg u hu
                    have dc := (List.pairwise_append.mp stk.dec).2.2
                    rcases List.mem_append.mp hu with q | q
                    · have := dc u q w (by simp)
                      omega
                    · rw [List.mem_singleton.mp q] at *
                      omega
                  refine ⟨_, rfl, .inl ⟨rfl, _, SqL.of eB2⟩, _, rfl, false, rfl, iteF ⟨_, rfl, _, rfl, _, rfl, three, fun T hT => ?_⟩⟩
                  have sT2 := Same.new hT (o := .tup [.int f, .int l, .int (ar - f)])
                  have eBT2 := sT2 _ _ eB2
                  have eFT2 := sT2 _ _ eF2
                  refine ⟨Bg, _, _, rfl, rfl, eBT2, smallL (by simp at ln lbg ⊢; omega), ?_⟩
                  refine ⟨fo, (b0v ++ [V.ref bw]) ++ [.ref T], foR, (B0 ++ [w]) ++ [(f, l, ar - f)], l + 1, _, _, _, _, _, _, rfl, same_upd (s2'.trans sT2) hBg7, ?_, ?_, upd_same, rns_updL eBT2 (rns_mono sT2 hF2), ?_, stk.push blk ebe De tge bigs, by have := blk.ef; have := blk.fl; omega, ch', en, by simp at ln ⊢; omega⟩
                  · rw [upd_ne nS5B]; exact sT2 _ _ e52
                  · rw [upd_ne (fun e => nFB e.symm)]; exact eFT2
                  · refine paired_snoc (rns_updL eBT2 (rns_mono sT2 hB2)) ⟨T, rfl, ?_⟩
                    rw [upd_ne (fun e => by rw [e, eB2] at hT; cases hT)]; exact upd_same
        · rintro σ Ha ⟨fo, bo, foR, bgR, e, y10, y11, y12, y13, y14, y15, rfl, sj, e5, eF, eB, hF, hB, stk, ebe, ch, en, ln⟩
          rw [List.drop_of_length_le (by omega)] at en
          have ee : e = eb + c := en
          subst ee
          have lf := paired_len hF
          have lbg := paired_len hB
          refine ⟨_, rfl, _, rfl, Fo, Bg, _, _, rfl, rfl, eF, eB, Nat.le_of_lt (smallL (by omega)), fun J hJ => ⟨J, rfl, ⟨_, SqL.of upd_same⟩, fun D3 hD3 => ?_⟩⟩
          have sJ := Same.new hJ (o := .lst (fo ++ bo))
          have eJ : (upd Ha J (.lst (fo ++ bo))) J = some (.lst (fo ++ bo)) := upd_same
          have hFB := paired_appT (rns_mono sJ hF) (rns_mono sJ hB)
          generalize upd Ha J (.lst (fo ++ bo)) = Hj at sJ eJ hFB hD3 ⊢
          refine lc_list (xs := fo ++ bo) (fun i H' => Same Hj H' ∧ ∃ ac, H' D3 = some (.lst ac) ∧ Paired (RnAt H') ac (((foR ++ bgR).take i).map (homeW c g'))) ⟨Same.new hD3, [], upd_same, .nil⟩ (fun i H' _ ⟨s, _⟩ => SqL.of (s _ _ eJ)) ?_ ?_
          · rintro i x Hk hx ⟨sk, ac, eD3, hA3⟩
            obtain ⟨r, hg, hr'⟩ := paired_at hFB hx
            have hi := (List.getElem?_eq_some_iff.mp hg).1
            have la := paired_len hA3
            rw [List.length_map, List.length_take] at la
            rw [List.length_append] at hi
            refine ⟨rfl, _, rfl, _, rfl, _, rfl, c, g', x, r, rfl, hr'.mono sk, c1, fun T Hl sl eT => ?_⟩
            have eD4 := sl _ _ eD3
            refine ⟨ac, eD4, smallL (by rw [List.length_append] at la; omega), same_upd (sk.trans sl) hD3, ac ++ [.ref T], upd_same, ?_⟩
            rw [List.take_add_one, hg, List.map_append]
            refine paired_snoc (rns_updL eD4 (rns_mono sl hA3)) ⟨T, rfl, ?_⟩
            rw [upd_ne (ne_of eT eD4 (fun z => nomatch z))]; exact eT
          · rintro Hk ⟨sk, ac, eD3, hA3⟩
            rw [List.take_of_length_le (by rw [List.length_append, List.length_append]; omega)] at hA3
            obtain ⟨nd, mem⟩ := stk.all mo top De
            refine sortRn eD3 hA3 fun pz Hz ws fr sz hws pm lx => ?_
            refine q pz Hz ws (none_by (s1.trans (s2.trans (s27.trans (sj.trans (sJ.trans sk))))) fr) (s1.trans (s2.trans (s27.trans (sj.trans (sJ.trans (sk.trans sz)))))) hws ⟨g', top, ⟨eb, De⟩, lx, pm.nodup_iff.mpr nd, fun w => pm.mem_iff.trans (mem w)⟩ (fun s hs => ?_) ?_
            · obtain ⟨w, hw, r⟩ := stk.covA mo s hs
              exact ⟨w, pm.mem_iff.mpr hw, r⟩
            rw [pm.length_eq, List.length_map, List.length_append]
            exact ln
end
end Gr

set_option Elab.async false
set_option linter.all false
set_option pp.deepTerms false
set_option pp.maxSteps 3000
set_option maxRecDepth 100000
set_option maxHeartbeats 8000000
set_option exponentiation.threshold 3000
namespace Gr
open PySem PySem.Spec PyProof.Rows L2
open Pm (Rn)
open Few
def spFewest (C : Addr) : Sp := fun vs H Q _ => ∃ (p : Addr) (c M : Int) (Z : List Rn), vs = [.ref p] ∧ PasAt C H p c M Z ∧ Z.length ≤ 2000 ∧ (∀ r ∈ Z, 0 ≤ r.2.2 - r.1) ∧ ∀ L H' ws, H L = none → Same H H' → RowsAt H' L ws → FewL c (Pm.F c Z) ws → CovL c (Pm.F c Z) ws → ws.length ≤ Z.length → Q (.ref L) H'
section
variable {P : Program} {w : World} {K : PySem.W.Frag} {mg : Str → Option Value} {base : Heap} {tC : Tok}
theorem ok_fewest {C fI fC f f1 f2 f3 f4 f5 : Addr} {fd fd1 fd2 fd3 fd4 fd5 : FuncData} (B : Blt mg tC) (TP : TxtP K mg C fI fC) (IP : IsP K C) (Dfewest_windows : Def K mg "fewest_windows" s_fewest_windows ["passage"] f fd) (Dcheck_passage : Def K mg "check_passage" s_check_passage ["passage"] f1 fd1) (Dwindows_of : Def K mg "windows_of" s_windows_of ["cycle", "runs"] f2 fd2) (Drun_pairs : Def K mg "run_pairs" s_run_pairs ["cycle", "runs"] f3 fd3) (Dmoved : Def K mg "moved" s_moved ["run", "ticks"] f4 fd4) (Dwindow_at_home : Def K mg "window_at_home" s_window_at_home ["cycle", "window", "greatest"] f5 fd5) : FnOk P w K mg base CX0 4 f fd ["passage"] (spFewest C) := by
  have Gcheck_passage := ok_chkP (P := P) (w := w) (base := base) B TP IP Dcheck_passage
  have Gwindows_of := ok_winof (P := P) (w := w) (base := base) B Dwindows_of Drun_pairs Dmoved Dwindow_at_home
  refine Dfewest_windows.F.ok scfewest_windows (fun vs H Q E h => ?_) (fun cdv A outer s H vs Q E hr h => ⟨_, (pss_cons (ps_expr (pe_call Gcheck_passage (hr.mono (by decide)) (by rfl) Dcheck_passage.g Dcheck_passage.F.kp Dcheck_passage.b .nil pass0 (pa_cons (pv 0) pa_nil)))
  (pss_cons (ps_if (pt_cmpR op_lt (pe_callB (cr_min rfl) (by rfl) B.n_min (by decide +kernel) (pa_cons (pe_lc (own := [("first", 1), ("_", 2), ("arrival", 3)]) (g := (gTup K 3 (gCons (gName 1) (gCons (gName 2) (gCons (gName 3) gNil))))) (tt := tYes) rfl scfewest_windows.nd (pi_tup (pe_fld (pv 0) rfl)) (blkOk_by (N := ["passage", "first", "_", "arrival"]) (sc := defScope s_fewest_windows) (by decide +kernel)) (fun _ _ _ _ _ => (pg_tup rfl (pgs_cons (pg_name (i := 1) scfewest_windows.nd rfl (Or.inl rfl)) (pgs_cons (pg_name (i := 2) scfewest_windows.nd rfl (Or.inl rfl)) (pgs_cons (pg_name (i := 3) scfewest_windows.nd rfl (Or.inl rfl)) pgs_nil))))) (fun _ _ _ _ _ => pts_nil) (fun _ _ _ _ _ => (pe_op op_sub (pv 3) (pv 1)))) pa_nil)) pe_int (nomark _))
   (pss_one ps_never)
   pss_nil)
  (pss_one (ps_ret (pe_call Gwindows_of (hr.mono (by decide)) (by rfl) Dwindows_of.g Dwindows_of.F.kp Dwindows_of.b .nil pass0 (pa_cons (pe_fld (pv 0) rfl) (pa_cons (pe_fld (pv 0) rfl) pa_nil))))))), ?_⟩)
  · obtain ⟨p, c, M, Z, rfl, _⟩ := h; rfl
  · obtain ⟨p, c, M, Z, rfl, PZ, len, nn, q⟩ := h
    obtain ⟨dx, aa, hO, xs, hS, hX⟩ := PZ.ob
    have lx := paired_len hX
    have lz1 : 1 ≤ Z.length := by
      have := PZ.can.1.ne
      cases Z with
      | nil => exact absurd rfl this
      | cons _ _ => simp
    refine ⟨_, rfl, p, dx, _, rfl, hO, ?_⟩
    refine ⟨_, rfl, p, C, dx, _, _, rfl, hO, TP.cl, TP.nR, fldP_runs _ _, aa, rfl, ⟨_, SqT.of hS⟩, fun D hD => ?_⟩
    refine lc_tup (xs := xs) (fun i H' => Same H H' ∧ H' D = some (.lst (((Z.take i).map fun r => r.2.2 - r.1).map V.int))) ⟨Same.new hD, upd_same⟩ (fun i H' _ ⟨s, _⟩ => SqT.of (s _ _ hS)) ?_ ?_
    · rintro i x H1 hx ⟨s1, eD⟩
      obtain ⟨⟨f, l, a⟩, hg, b, rfl, hb⟩ := paired_at hX hx
      have hi := (List.getElem?_eq_some_iff.mp hg).1
      refine ⟨b, _, rfl, SqT.of (s1 _ _ hb), rfl, _, _, rfl, _, _, rfl, _, _, rfl, rfl, rfl, ?_⟩
      refine ⟨_, rfl, _, rfl, _, _, rfl, rfl, ?_⟩
      refine ⟨_, eD, by simp only [List.length_map, List.length_take]; exact smallL (by omega), same_upd s1 hD, ?_⟩
      rw [upd_same, List.take_add_one, hg, List.map_append, List.map_append]; rfl
    · rintro H1 ⟨s1, eD⟩
      rw [List.take_of_length_le (by omega)] at eD
      refine ⟨D, _, rfl, SqL.of eD, by rw [List.length_map]; omega, fun v hm hle => ?_⟩
      have v0 : 0 ≤ v := by
        obtain ⟨r, hr, e⟩ := List.mem_map.mp hm
        have := nn r hr
        omega
      refine ⟨_, _, rfl, rfl, _, rfl, iteN (by omega) ?_⟩
      have hO1 := s1 _ _ hO
      refine ⟨_, rfl, p, C, dx, _, _, rfl, hO1, TP.cl, TP.nC, fldP_cycle _ _, _, rfl, p, C, dx, _, _, rfl, hO1, TP.cl, TP.nR, fldP_runs _ _, c, aa, Z, rfl, ⟨xs, s1 _ _ hS, rns_mono s1 hX⟩, PZ.can, len, fun L H2 ws fr s2 hW few cov lw => ?_⟩
      exact q L H2 ws (none_by s1 fr) (s1.trans s2) hW few cov lw
end
end Gr

set_option Elab.async false
set_option linter.all false
set_option maxRecDepth 100000
set_option maxHeartbeats 4000000
/-! the runs that the arrivals of one cycle tell -/
namespace Pm
def goesF (H : Int → Int) (x : Int) : Prop := H (x + 1) - H x = 1 ∧ H (x + 1) < H (x + 2)
def startF (H : Int → Int) (x : Int) : Prop := H x < H (x + 1) ∧ ¬ goesF H (x - 1)
theorem goesF.per {c : Int} {H : Int → Int} (m : Mono c H) {x : Int} (k : Int) (h : goesF H x) : goesF H (x + k * c) := by
  have p0 := m.per x k
  have p1 := m.per (x + 1) k
  have p2 := m.per (x + 2) k
  unfold goesF at *
  rw [show x + k * c + 1 = x + 1 + k * c by omega, show x + k * c + 2 = x + 2 + k * c by omega]
  omega
theorem startF.per {c : Int} {H : Int → Int} (m : Mono c H) {x : Int} (k : Int) (h : startF H x) : startF H (x + k * c) := by
  have p0 := m.per x k
  have p1 := m.per (x + 1) k
  obtain ⟨h1, h2⟩ := h
  refine ⟨by rw [show x + k * c + 1 = x + 1 + k * c by omega]; omega, fun g => h2 ?_⟩
  have := g.per m (-k)
  rw [Int.neg_mul, show x + k * c - 1 + -(k * c) = x - 1 by omega] at this
  exact this
structure FormR (H : Int → Int) (r : Rn) : Prop where
  st : startF H r.1
  ar : r.2.2 = H r.1
  le : r.1 ≤ r.2.1
  on : ∀ z, r.1 ≤ z → z < r.2.1 → goesF H z
  no : ¬ goesF H r.2.1
structure FormOf (H : Int → Int) (k : Int) (Y : List Rn) : Prop where
  mem : ∀ r ∈ Y, (0 ≤ r.1 ∧ r.1 < k) ∧ FormR H r
  pw : Y.Pairwise fun a b => a.1 < b.1
  cov : ∀ s, 0 ≤ s → s < k → startF H s → ∃ r ∈ Y, r.1 = s
theorem FormOf.zero (H : Int → Int) : FormOf H 0 [] := ⟨fun r h => (List.not_mem_nil h).elim, .nil, fun s a b => by omega⟩
theorem FormOf.skip {H : Int → Int} {k : Int} {Y : List Rn} (h : FormOf H k Y) (n : ¬ startF H k) : FormOf H (k + 1) Y := by
  refine ⟨fun r hr => ⟨by have := (h.mem r hr).1; omega, (h.mem r hr).2⟩, h.pw, fun s a b g => ?_⟩
  by_cases e : s = k
  · rw [e] at g; exact absurd g n
  · exact h.cov s a (by omega) g
theorem FormOf.add {H : Int → Int} {k : Int} {Y : List Rn} (h : FormOf H k Y) (k0 : 0 ≤ k) {l : Int} (r : FormR H (k, l, H k)) : FormOf H (k + 1) (Y ++ [(k, l, H k)]) := by
  refine ⟨fun s hs => ?_, ?_, fun s a b g => ?_⟩
  · rcases List.mem_append.mp hs with q | q
    · exact ⟨by have := (h.mem s q).1; omega, (h.mem s q).2⟩
    · rw [List.mem_singleton.mp q]; exact ⟨by simp only []; omega, r⟩
  · rw [List.pairwise_append]
    refine ⟨h.pw, List.pairwise_singleton _ _, fun s hs t ht => ?_⟩
    rw [List.mem_singleton.mp ht]
    exact (h.mem s hs).1.2
  · by_cases e : s = k
    · exact ⟨_, List.mem_append_right _ (List.mem_singleton_self _), e.symm⟩
    · obtain ⟨t, ht, q⟩ := h.cov s a (by omega) g
      exact ⟨t, List.mem_append_left _ ht, q⟩
theorem FormR.rise {H : Int → Int} {r : Rn} (h : FormR H r) : ∀ n : Nat, r.1 + n ≤ r.2.1 → H (r.1 + n) = r.2.2 + n ∧ H (r.1 + n) < H (r.1 + n + 1)
  | 0, _ => by
    have := h.st.1
    have e := h.ar
    rw [show r.1 + ((0 : Nat) : Int) = r.1 by omega]
    exact ⟨by omega, this⟩
  | n + 1, le => by
    have ih := h.rise n (by omega)
    have g := h.on (r.1 + n) (by omega) (by omega)
    unfold goesF at g
    rw [show r.1 + ((n + 1 : Nat) : Int) = r.1 + n + 1 by omega]
    rw [show r.1 + (n : Int) + 2 = r.1 + n + 1 + 1 by omega] at g
    exact ⟨by push_cast; omega, g.2⟩
theorem FormOf.rows {c : Int} {H : Int → Int} (m : Mono c H) {a : Rn} {q : List Rn} (h : FormOf H c (a :: q)) : RowsOf c H (a :: q) := by
  have c1 := m.c1
  have ha := h.mem a (by simp)
  have lo : ∀ r ∈ a :: q, a.1 ≤ r.1 := fun r hr => by
    rcases List.mem_cons.mp hr with rfl | hr
    · exact Int.le_refl _
    · have := (List.pairwise_cons.mp h.pw).1 r hr; omega
  refine ⟨⟨a.1, ha.1, fun r hr => ⟨lo r hr, (h.mem r hr).2.le, ?_⟩, ?_⟩, fun r hr z z0 z1 => ?_, ?_⟩
  · refine Decidable.byContradiction fun n => ?_
    have hr' := h.mem r hr
    have g := hr'.2.on (a.1 + c - 1) (by omega) (by omega)
    have := g.per m (-1)
    rw [show a.1 + c - 1 + -1 * c = a.1 - 1 by omega] at this
    exact ha.2.st.2 this
  · have key : ∀ n : Nat, a.1 + n < a.1 + c → H (a.1 + n) < H (a.1 + n + 1) → ∃ r ∈ a :: q, r.1 ≤ a.1 + n ∧ a.1 + n ≤ r.2.1 := by
      intro n
      induction n with
      | zero => intro _ _; exact ⟨a, by simp, by omega, by have := ha.2.le; omega⟩
      | succ n ih =>
        intro l g
        have e : a.1 + ((n + 1 : Nat) : Int) = a.1 + n + 1 := by omega
        rw [e] at l g ⊢
        by_cases s : goesF H (a.1 + n)
        · obtain ⟨r, hr, r1, r2⟩ := ih (by omega) (by unfold goesF at s; omega)
          refine ⟨r, hr, by omega, ?_⟩
          refine Decidable.byContradiction fun w => ?_
          have : r.2.1 = a.1 + n := by omega
          exact (h.mem r hr).2.no (this ▸ s)
        · have st : startF H (a.1 + n + 1) := ⟨g, by rw [show a.1 + (n : Int) + 1 - 1 = a.1 + n by omega]; exact s⟩
          by_cases k : a.1 + n + 1 < c
          · obtain ⟨r, hr, e⟩ := h.cov _ (by omega) k st
            exact ⟨r, hr, by omega, by have := (h.mem r hr).2.le; omega⟩
          · have := st.per m (-1)
            obtain ⟨r, hr, e⟩ := h.cov _ (by omega) (by omega) this
            have := lo r hr
            omega
    intro z z0 z1 g
    have e : a.1 + ((z - a.1).toNat : Int) = z := by omega
    have := key (z - a.1).toNat (by omega) (by rw [e]; exact g)
    rw [e] at this
    exact this
  · have := (h.mem r hr).2.rise (z - r.1).toNat (by omega)
    rw [show r.1 + ((z - r.1).toNat : Int) = z by omega] at this
    exact ⟨by omega, this.2⟩
  · refine h.pw.imp_of_mem fun {x y} hx hy lt => ?_
    refine Decidable.byContradiction fun n => ?_
    exact (h.mem y hy).2.st.2 ((h.mem x hx).2.on _ (by omega) (by omega))
theorem FormOf.can {c : Int} {H : Int → Int} (m : Mono c H) {Y : List Rn} (h : FormOf H c Y) (ne : Y ≠ []) : Can c Y ∧ ∀ x, F c Y x = H x := by
  cases Y with
  | nil => exact absurd rfl ne
  | cons a q =>
    have R := h.rows m
    refine ⟨⟨R.ok m, .inr ⟨fun r hr => (h.mem r hr).1, fun r hr => ⟨fun g => ?_, fun g => ?_⟩⟩⟩, fun x => R.F_eq m x⟩
    · have k := R.G_is m g
      have f := (h.mem r hr).2
      have e := f.ar
      have s := f.st.1
      refine f.st.2 ⟨?_, ?_⟩
      · rw [show r.1 - 1 + 1 = r.1 by omega]; omega
      · rw [show r.1 - 1 + 1 = r.1 by omega, show r.1 - 1 + 2 = r.1 + 1 by omega]; exact s
    · have k := R.G_is m g
      have f := (h.mem r hr).2
      have l := f.le
      have u := f.rise (r.2.1 - r.1).toNat (by omega)
      rw [show r.1 + ((r.2.1 - r.1).toNat : Int) = r.2.1 by omega] at u
      unfold la at k
      refine f.no ⟨by omega, ?_⟩
      rw [show r.2.1 + 2 = r.2.1 + 1 + 1 by omega]; exact k.2
theorem FormOf.nil_lin {c : Int} {H : Int → Int} (m : Mono c H) (h : FormOf H c []) (x : Int) : H x = H 0 + x := by
  have c1 := m.c1
  have no : ∀ s, ¬ startF H s := fun s st => by
    have e := Int.emod_add_mul_ediv s c
    have e2 : s + -(s / c) * c = s % c := by rw [Int.neg_mul, Int.mul_comm]; omega
    have := st.per m (-(s / c))
    rw [e2] at this
    obtain ⟨r, hr, _⟩ := h.cov _ (Int.emod_nonneg _ (by omega)) (Int.emod_lt_of_pos _ (by omega)) this
    cases hr
  obtain ⟨z, gz⟩ : ∃ z, H z < H (z + 1) := by
    refine Classical.byContradiction fun n => ?_
    have h1 := const_to m.up (x := 0) (y := c) (by omega) fun z _ _ g => n ⟨z, g⟩
    have h2 := m.per 0 1
    rw [Int.one_mul, Int.zero_add] at h2
    omega
  have down : ∀ n : Nat, H (z - n) < H (z - n + 1) := by
    intro n
    induction n with
    | zero => rw [show z - ((0 : Nat) : Int) = z by omega]; exact gz
    | succ n ih =>
      have : goesF H (z - n - 1) := Classical.byContradiction fun k => no _ ⟨ih, k⟩
      unfold goesF at this
      rw [show z - ((n + 1 : Nat) : Int) = z - n - 1 by omega]
      omega
  have g1 : ∀ n : Nat, H (z - n) = H (z - n - 1) + 1 := fun n => by
    have : goesF H (z - n - 1) := Classical.byContradiction fun k => no _ ⟨down n, k⟩
    unfold goesF at this
    rw [show z - (n : Int) - 1 + 1 = z - n by omega] at this
    omega
  have g2 : ∀ y, y ≤ z → H y = H (y - 1) + 1 := fun y hy => by
    have := g1 (z - y).toNat
    rw [show z - ((z - y).toNat : Int) = y by omega] at this
    exact this
  have all : ∀ y, H y = H (y - 1) + 1 := fun y => by
    have t := turn_rng c z y c1
    have p := m.per (y - (-((z - y) / c)) * c) (-((z - y) / c))
    have p' := m.per (y - 1 - (-((z - y) / c)) * c) (-((z - y) / c))
    rw [Int.sub_add_cancel] at p p'
    have := g2 (y - (-((z - y) / c)) * c) (by omega)
    rw [show y - (-((z - y) / c)) * c - 1 = y - 1 - (-((z - y) / c)) * c by omega] at this
    omega
  have up : ∀ n : Nat, H n = H 0 + n := by
    intro n
    induction n with
    | zero => simp
    | succ n ih => have := all ((n + 1 : Nat) : Int); rw [show ((n + 1 : Nat) : Int) - 1 = n by omega] at this; push_cast at *; omega
  have dn : ∀ n : Nat, H (-n) = H 0 - n := by
    intro n
    induction n with
    | zero => simp
    | succ n ih => have := all (-(n : Int)); rw [show -(n : Int) - 1 = -((n + 1 : Nat) : Int) by omega] at this; push_cast at *; omega
  rcases Int.le_total 0 x with k | k
  · have := up x.toNat
    rw [show ((x.toNat : Nat) : Int) = x by omega] at this
    exact this
  · have := dn (-x).toNat
    rw [show -(((-x).toNat : Nat) : Int) = x by omega] at this
    omega
theorem FaF {c a l t x : Int} (c1 : 1 ≤ c) (h1 : a ≤ l) (h2 : l < a + c) (ok : Ok c [(a, l, a + t)]) : F c [(a, l, a + t)] x = (if x < a + (0 - (l - x) / c * c) then a + (0 - (l - x) / c * c) else x) + t := by
  have tr := turn_rng c l x c1
  have e : -((l - x) / c) * c = 0 - (l - x) / c * c := by rw [Int.neg_mul]; omega
  rw [e] at tr
  have := ok.F_at (pre := []) (post := []) (r := (a, l, a + t)) (x := x) (k := -((l - x) / c)) (fun _ h => (List.not_mem_nil h).elim) (by rw [e]; exact tr.2) (fun r hr => by
    have hr : r = (a, l, a + t) := by simpa using hr
    rw [hr, e]; exact tr.1)
  rw [show ([] ++ (a, l, a + t) :: [] : List Rn) = [(a, l, a + t)] from rfl] at this
  rw [this]
  rw [e]
  generalize (l - x) / c * c = u at *
  show a + t + (0 - u) + (if x - (a + (0 - u)) > 0 then x - (a + (0 - u)) else 0) = _
  by_cases g : x < a + (0 - u)
  · rw [if_pos g, if_neg (by omega)]; omega
  · rw [if_neg g]
    by_cases g2 : x - (a + (0 - u)) > 0
    · rw [if_pos g2]; omega
    · rw [if_neg g2]; omega
end Pm

set_option Elab.async false
set_option linter.all false
set_option maxRecDepth 100000
set_option maxHeartbeats 4000000
set_option exponentiation.threshold 3000
namespace Gr
open PySem PySem.Spec PyProof.Rows L2
open Pm (Rn)
open Few
theorem win_short {c : Int} {F : Int → Int} (m : Pm.Mono c F) {w : Rn} (h : Win F w) : w.2.1 < w.1 + c := by
  have c1 := m.c1
  obtain ⟨e, h⟩ := h
  refine Decidable.byContradiction fun n => ?_
  obtain ⟨x, x1, x2, _⟩ := h.lf
  have e1 := Int.emod_add_mul_ediv (x - w.1) c
  have r0 := Int.emod_nonneg (x - w.1) (show c ≠ 0 by omega)
  have r1 := Int.emod_lt_of_pos (x - w.1) (show 0 < c by omega)
  rw [Int.mul_comm] at e1
  have p := dn_per m x (-((x - w.1) / c))
  rw [Int.neg_mul] at p
  have := h.in' (x + -((x - w.1) / c * c)) (by omega) (by omega)
  omega
theorem tw_good {c g : Int} {F : Int → Int} (m : Pm.Mono c F) (nn : ∀ s, Ls F s → 0 ≤ Dn F s) {w : Rn} (h : TW c F g w) : GoodW c w := by
  have c1 := m.c1
  rcases h with ⟨rfl, s, hs⟩ | ⟨w0, wc, hw⟩
  · have := nn s hs.1
    have := hs.2
    exact ⟨Int.le_refl _, by show 0 < c; omega, by show 0 ≤ c - 1; omega, by show c - 1 < 0 + c; omega, by show 0 ≤ g; omega⟩
  · have sh := win_short m hw
    obtain ⟨e, h⟩ := hw
    have := nn _ h.ha.1
    have := h.ha.2
    exact ⟨w0, wc, h.le, sh, by omega⟩
theorem next_ls {c : Int} {F : Int → Int} (m : Pm.Mono c F) (x : Int) : ∃ s, x ≤ s ∧ Ls F s ∧ F s = F x := by
  have c1 := m.c1
  by_cases h : ∃ n : Nat, Ls F (x + n)
  · obtain ⟨n, hn⟩ := h
    induction n with
    | zero => exact ⟨x, Int.le_refl _, by rw [show x + ((0 : Nat) : Int) = x by omega] at hn; exact hn, rfl⟩
    | succ n ih =>
      by_cases k : ∃ i : Nat, i ≤ n ∧ Ls F (x + i)
      · obtain ⟨i, il, hi⟩ := k
        clear ih hn
        -- the least one
        have key : ∀ i : Nat, Ls F (x + i) → ∃ s, x ≤ s ∧ Ls F s ∧ F s = F x := by
          intro i
          induction i using Nat.strongRecOn with
          | _ i ih =>
            intro hi
            by_cases k : ∃ j : Nat, j < i ∧ Ls F (x + j)
            · obtain ⟨j, jl, hj⟩ := k
              exact ih j jl hj
            · refine ⟨x + i, by omega, hi, ?_⟩
              refine Pm.const_on m.up i x fun z a b z2 => k ⟨(z - x).toNat, by omega, ?_⟩
              rw [show x + ((z - x).toNat : Int) = z by omega]; exact z2
        exact key i hi
      · refine ⟨x + (n + 1 : Nat), by omega, hn, ?_⟩
        refine Pm.const_on m.up (n + 1) x fun z a b z2 => k ⟨(z - x).toNat, by omega, ?_⟩
        rw [show x + ((z - x).toNat : Int) = z by omega]; exact z2
  · exfalso
    have e := Pm.const_on m.up c.toNat x fun z a b z2 => h ⟨(z - x).toNat, by
      rw [show x + ((z - x).toNat : Int) = z by omega]; exact z2⟩
    have p := m.per x 1
    rw [Int.one_mul] at p
    rw [show ((c.toNat : Nat) : Int) = c by omega] at e
    omega
/-- the arrival is the least one of the windows -/
theorem few_min {c : Int} {F : Int → Int} {ws : List Rn} (m : Pm.Mono c F) (nn : ∀ s, Ls F s → 0 ≤ Dn F s) (few : FewL c F ws) (cov : CovL c F ws) (x : Int) : IsMin (F x) (ws.map fun w => Pm.F c (winZ w) x) := by
  have c1 := m.c1
  obtain ⟨g, top, _, _, _, mem⟩ := few
  have val : ∀ w ∈ ws, Pm.F c (winZ w) x = (if x < w.1 + (0 - (w.2.1 - x) / c * c) then w.1 + (0 - (w.2.1 - x) / c * c) else x) + w.2.2 := fun w hw => by
    obtain ⟨g1, g2, g3, g4, g5⟩ := tw_good m nn ((mem w).mp hw)
    exact Pm.FaF c1 g3 g4 (ok_win c1 g3 g4)
  have low : ∀ w ∈ ws, F x ≤ Pm.F c (winZ w) x := fun w hw => by
    rw [val w hw]
    have tw := (mem w).mp hw
    have tr := Pm.turn_rng c w.2.1 x c1
    have e : -((w.2.1 - x) / c) * c = 0 - (w.2.1 - x) / c * c := by rw [Int.neg_mul]; omega
    have le : w.1 ≤ w.2.1 := (tw_good m nn tw).2.2.1
    obtain ⟨y, hy⟩ : ∃ y, y = (if x < w.1 + (0 - (w.2.1 - x) / c * c) then w.1 + (0 - (w.2.1 - x) / c * c) else x) := ⟨_, rfl⟩
    have yb : x ≤ y ∧ w.1 + -((w.2.1 - x) / c) * c ≤ y ∧ y ≤ w.2.1 + -((w.2.1 - x) / c) * c := by
      rw [hy, e]
      rw [e] at tr
      split <;> omega
    rw [← hy]
    have up := m.up x y yb.1
    have dy : Dn F y ≤ w.2.2 := by
      rcases tw with ⟨rfl, _⟩ | ⟨_, _, hw⟩
      · exact top y
      · obtain ⟨z, h⟩ := hw
        have := h.in' (y - -((w.2.1 - x) / c) * c) (by omega) (by omega)
        have p := dn_per m (y - -((w.2.1 - x) / c) * c) (-((w.2.1 - x) / c))
        rw [Int.sub_add_cancel] at p
        omega
    unfold Dn at dy
    omega
  refine ⟨?_, fun y hy => ?_⟩
  · obtain ⟨s, s1, s2, s3⟩ := next_ls m x
    obtain ⟨w, hw, k, k1, k2, k3⟩ := cov s s2
    refine List.mem_map.mpr ⟨w, hw, ?_⟩
    have lo := low w hw
    have good := tw_good m nn ((mem w).mp hw)
    have mw := (ok_win c1 good.2.2.1 good.2.2.2.1 (t := w.2.2)).mono
    have up := mw.up x s s1
    have at1 : Pm.F c (winZ w) s = s + w.2.2 := by
      refine (ok_win c1 good.2.2.1 good.2.2.2.1 (t := w.2.2)).F_G ⟨_, List.mem_singleton_self _, k, k1, k2, ?_⟩
      simp only []; omega
    unfold Dn at k3
    have e : Pm.F c (winZ w) x ≤ Pm.F c (winZ w) s := up
    omega
  · obtain ⟨w, hw, rfl⟩ := List.mem_map.mp hy
    exact low w hw
end Gr

set_option Elab.async false
set_option linter.all false
set_option pp.deepTerms false
set_option pp.maxSteps 3000
set_option maxRecDepth 100000
set_option maxHeartbeats 4000000
set_option exponentiation.threshold 3000
namespace Gr
open PySem PySem.Spec PyProof.Rows L2
open Pm (Rn)
/-! ### the law's own arrivals -/
theorem RowsAt.mono {H H' : Hp} {L : Addr} {rs : List Rn} (s : Same H H') (h : RowsAt H L rs) : RowsAt H' L rs := by
  obtain ⟨xs, h1, h2⟩ := h; exact ⟨xs, s _ _ h1, rns_mono s h2⟩
theorem RowsAt.but {p L : Addr} {H H' : Hp} {rs : List Rn} {u : List V} (b : But p H H') (hp : H p = some (.lst u)) (hL : L ≠ p) (h : RowsAt H L rs) : RowsAt H' L rs := by
  obtain ⟨xs, h1, h2⟩ := h
  exact ⟨xs, b _ _ hL h1, L2.Paired.mapP h2 fun _ _ ⟨b', e', h'⟩ => ⟨b', e', b _ _ (ne_of h' hp (fun z => nomatch z)) h'⟩⟩
theorem stepF_eq {r : Rn} {x A B : Int} (h1 : r.1 = A) (h2 : r.2.2 = B) : Pm.stepF r x = B + (if x - A > 0 then x - A else 0) := by subst h1; subst h2; rfl
def spTo (_K : PySem.W.Frag) : Sp := fun vs H Q _ => ∃ (c x : Int) (L : Addr) (rs : List Rn), vs = [.int c, .ref L, .int x] ∧ RowsAt H L rs ∧ Pm.Ok c rs ∧ c ≤ 10 ^ 30 ∧ BR (10 ^ 43) rs ∧ -(10 ^ 250) ≤ x ∧ x ≤ 10 ^ 250 ∧ ∀ H', Same H H' → Q (.int (Pm.F c rs x)) H'
section
variable {P : Program} {w : World} {K : PySem.W.Frag} {mg : Str → Option Value} {base : Heap} {tC : Tok}
theorem ok_to {f : Addr} {fd : FuncData} (B : Blt mg tC) (Dl_to : Def K mg "_law_to" s_l_to ["_law_cycle_here", "_law_rows_here", "_law_start"] f fd) : FnOk P w K mg base CX0 1 f fd ["_law_cycle_here", "_law_rows_here", "_law_start"] (spTo K) := by
  refine Dl_to.F.ok scl_to (fun vs H Q E h => ?_) (fun cdv A outer s H vs Q E hr h => ⟨_, (pss_cons (ps_set (i := 3) scl_to.nd rfl (Or.inl rfl) (pe_op op_fdivW (pe_op op_sub (pv 2) (pe_ix ix_tup (pe_ix ix_list (pv 1) pe_int (fun _ _ => rfl)) pe_int (fun _ _ => rfl))) (pv 0)))
  (pss_cons (ps_for PassesOwn.never rfl (pi_tup (pe_tup (pa_cons (pe_op op_mulW (pv 3) (pv 0)) (pa_cons (pe_op op_mulW (pe_op op_add (pv 3) pe_int) (pv 0)) pa_nil)))) (pg_name (i := 4) scl_to.nd rfl (Or.inl rfl))
   (pss_one (ps_for PassesOwn.never rfl (pi_list (pv 1)) (pg_tup rfl (pgs_cons (pg_name (i := 5) scl_to.nd rfl (Or.inl rfl)) (pgs_cons (pg_name (i := 6) scl_to.nd rfl (Or.inl rfl)) (pgs_cons (pg_name (i := 7) scl_to.nd rfl (Or.inl rfl)) pgs_nil))))
   (pss_one (ps_if (pt_cmpR op_ge (pe_op op_add (pv 6) (pv 4)) (pv 2) (nomark _))
   (pss_one (ps_ret (pe_op op_add (pe_op op_add (pv 7) (pv 4)) (pe_callB (call_max2 rfl) (by rfl) B.n_max (by decide +kernel) (pa_cons pe_int (pa_cons (pe_op op_sub (pe_op op_sub (pv 2) (pv 5)) (pv 4)) pa_nil))))))
   pss_nil)))))
  (pss_one (ps_ret pe_non)))), ?_⟩)
  · obtain ⟨c, x, L, rs, rfl, _⟩ := h; rfl
  · obtain ⟨c, x, L, rs, rfl, ⟨xs, ha, hP⟩, ok, c30, br, x0, x1, q⟩ := h
    have c1 := ok.c1
    have lx := paired_len hP
    match rs, hP, ok, br, q, lx with
    | [], _, ok, _, _, _ => exact absurd rfl ok.ne
    | r0 :: rs, hP, ok, br, q, lx =>
    obtain ⟨v0, xs', rfl⟩ : ∃ v0 xs', xs = v0 :: xs' := by
      match xs, lx with
      | [], lx => simp at lx
      | v :: l, _ => exact ⟨v, l, rfl⟩
    obtain ⟨r0', h0', b, e0, hb⟩ := paired_at hP (i := 0) rfl
    obtain rfl : r0 = r0' := Option.some.inj h0'
    subst e0
    have hbr := br r0 List.mem_cons_self
    have e43 : (10 : Int) ^ 43 ≤ 10 ^ 250 := by decide +kernel
    have e251 : 2 * (10 : Int) ^ 250 ≤ 10 ^ 300 := by decide +kernel
    refine ⟨_, rfl, _, rfl, L, _, _, _, rfl, rfl, SqL.of ha, atI_nat (j := 0) rfl, b, _, _, _, rfl, rfl, SqT.of hb, atI_nat (j := 0) rfl, _, _, rfl, rfl, _, rfl, _, _, rfl, rfl, divF c1 c30, ?_⟩
    have fx : Fit (x - r0.1) := by unfold Fit; omega
    obtain ⟨T, hT⟩ : ∃ T : Int, (x - r0.1) / c = T := ⟨_, rfl⟩
    have mT : CMulW T c := hT ▸ mulF fx c1 c30
    have mT1 : CMulW (T + 1) c := by
      have h1 := (fit_div (x := x - r0.1) c1)
      have h2 := fx.bits
      rw [hT] at h1
      exact wide_mul (a := 1001) (b := 1000) (by omega) (fit30 c1 c30).bits (by decide) (by decide) (by decide)
    have rng : r0.1 + T * c ≤ x ∧ x < r0.1 + T * c + c := by
      have e1 := Int.emod_add_mul_ediv (x - r0.1) c
      have e2 := Int.emod_nonneg (x - r0.1) (show c ≠ 0 by omega)
      have e3 := Int.emod_lt_of_pos (x - r0.1) (show 0 < c by omega)
      rw [hT, Int.mul_comm c T] at e1
      omega
    subst hT
    have f0 := ok.fl r0 List.mem_cons_self
    have cyc : ∀ a ∈ r0 :: rs, a.2.1 + ((x - r0.1) / c) * c - c < x := fun a ha => by
      have := (ok.cy a ha r0 List.mem_cons_self).1
      simp only [Pm.mv2] at this
      omega
    have e1c : (((x - r0.1) / c) + 1) * c = ((x - r0.1) / c) * c + c := by rw [Int.add_mul, Int.one_mul]
    refine ⟨_, rfl, _, rfl, _, _, rfl, rfl, mT, _, rfl, _, _, rfl, rfl, _, rfl, _, _, rfl, rfl, mT1, (by show 2 ≤ sizeLine; decide), fun Z hZ => ⟨Z, rfl, ⟨_, SqT.of upd_same⟩, ?_⟩⟩
    have sZ := Same.new hZ (o := .tup [.int (((x - r0.1) / c) * c), .int ((((x - r0.1) / c) + 1) * c)])
    refine for_tup (xs := [.int (((x - r0.1) / c) * c), .int ((((x - r0.1) / c) + 1) * c)]) (fun i σ H' => ∃ y4 y5 y6 y7, σ = [some (.int c), some (.ref L), some (.int x), some (.int ((x - r0.1) / c)), y4, y5, y6, y7] ∧ Same H H' ∧ H' Z = some (.tup [.int (((x - r0.1) / c) * c), .int ((((x - r0.1) / c) + 1) * c)]) ∧ i < 2 ∧ (i = 1 → ∀ r ∈ r0 :: rs, r.2.1 + ((x - r0.1) / c) * c < x)) ⟨_, _, _, _, rfl, sZ, upd_same, by decide, fun h => by cases h⟩
      (fun _ _ _ _ ⟨_, _, _, _, _, _, h, _⟩ => SqT.of h) ?_ ?_
    · rintro i v σ H' hv ⟨y4, y5, y6, y7, rfl, s1, hZ1, hi, hlt⟩
      obtain ⟨k, rfl, hw, hk⟩ : ∃ k : Int, v = .int (k * c) ∧ (∀ a ∈ r0 :: rs, a.2.1 + k * c - c < x) ∧ ((i = 0 ∧ k = ((x - r0.1) / c)) ∨ (i = 1 ∧ k = ((x - r0.1) / c) + 1)) := by
        match i, hi, hv with
        | 0, _, hv => exact ⟨((x - r0.1) / c), (Option.some.inj hv).symm, cyc, .inl ⟨rfl, rfl⟩⟩
        | 1, _, hv => exact ⟨((x - r0.1) / c) + 1, (Option.some.inj hv).symm, fun a ha => by have := hlt rfl a ha; omega, .inr ⟨rfl, rfl⟩⟩
      have h1 := s1 _ _ ha
      refine ⟨_, rfl, L, rfl, ⟨_, SqL.of h1⟩, ?_⟩
      refine for_list (xs := .ref b :: xs') (fun j σ H2 => ∃ y5 y6 y7, σ = [some (.int c), some (.ref L), some (.int x), some (.int ((x - r0.1) / c)), some (.int (k * c)), y5, y6, y7] ∧ H2 = H' ∧ ∀ r ∈ (r0 :: rs).take j, r.2.1 + k * c < x) ⟨_, _, _, rfl, rfl, fun _ h => by cases h⟩
        (fun _ _ _ _ ⟨_, _, _, _, e, _⟩ => by rw [e]; exact SqL.of h1) ?_ ?_
      · rintro j y σ H2 hy ⟨z5, z6, z7, rfl, rfl, hp⟩
        obtain ⟨r, hr, b', rfl, hb'⟩ := paired_at hP hy
        refine ⟨b', _, rfl, SqT.of (s1 _ _ hb'), rfl, _, _, rfl, _, _, rfl, _, _, rfl, rfl, ?_⟩
        refine ⟨_, rfl, _, rfl, _, _, rfl, rfl, _, rfl, _, _, rfl, rfl, _, rfl, ?_⟩
        by_cases g : x ≤ r.2.1 + k * c
        · refine iteY g ?_
          refine ⟨_, rfl, _, rfl, _, _, rfl, rfl, _, rfl, _, rfl, _, _, rfl, rfl, _, rfl, _, _, rfl, rfl, ?_⟩
          refine ⟨_, _, rfl, _, _, rfl, rfl, ?_⟩
          have ev : r.2.2 + k * c + (if x - r.1 - k * c > 0 then x - r.1 - k * c else 0) = Pm.stepF (Pm.mv (k * c) r) x := by
            rw [stepF_eq (A := r.1 + k * c) (B := r.2.2 + k * c) rfl rfl]
            by_cases h : x - r.1 - k * c > 0
            · rw [if_pos h, if_pos (show x - (r.1 + k * c) > 0 by omega)]; omega
            · rw [if_neg h, if_neg (show ¬ x - (r.1 + k * c) > 0 by omega)]
          have eF : Pm.F c (r0 :: rs) x = Pm.stepF (Pm.mv (k * c) r) x := by
            have e := take_get hr
            generalize hpre : (r0 :: rs).take j = pre at e hp
            generalize (r0 :: rs).drop (j + 1) = post at e
            rw [e] at ok hw ⊢
            exact ok.F_at hp g hw
          have := q H2 s1
          rw [eF, ← ev] at this
          exact this
        · refine iteN g ?_
          refine ⟨_, _, _, rfl, rfl, fun a ha => ?_⟩
          rw [List.take_add_one, hr] at ha
          rcases List.mem_append.mp ha with h | h
          · exact hp a h
          · rw [List.mem_singleton.mp h]; omega
      · rintro σ H2 ⟨z5, z6, z7, rfl, rfl, hp⟩
        rw [List.take_of_length_le (by rw [lx]; exact Nat.le_refl _)] at hp
        have := hp r0 List.mem_cons_self
        rcases hk with ⟨rfl, rfl⟩ | ⟨rfl, rfl⟩
        · exact ⟨_, _, _, _, rfl, s1, hZ1, by decide, fun _ => hp⟩
        · omega
    · rintro σ H' ⟨_, _, _, _, _, _, _, h, _⟩
      exact absurd h (Nat.lt_irrefl 2)
end
end Gr

set_option Elab.async false
set_option linter.all false
set_option pp.deepTerms false
set_option pp.maxSteps 3000
set_option maxRecDepth 100000
set_option maxHeartbeats 8000000
set_option exponentiation.threshold 3000
namespace Gr
open PySem PySem.Spec PyProof.Rows L2
open Pm (Rn)
open Few
def spBy : Sp := fun vs H Q _ => ∃ (L : Addr) (c x : Int) (xs : List V) (ws : List Rn), vs = [.int c, .ref L, .int x] ∧ H L = some (.lst xs) ∧ Paired (RnAt H) xs ws ∧ ws ≠ [] ∧ ws.length ≤ 600 ∧ 1 ≤ c ∧ c ≤ 10 ^ 30 ∧ (∀ w ∈ ws, GoodW c w) ∧ x.natAbs ≤ 10 ^ 50 ∧
  ∀ v H', Same H H' → IsMin v (ws.map fun w => Pm.F c (winZ w) x) → Q (.int v) H'
section
variable {P : Program} {w : World} {K : PySem.W.Frag} {mg : Str → Option Value} {base : Heap} {tC : Tok}
theorem ok_by {f : Addr} {fd : FuncData} (B : Blt mg tC) (Dl_by : Def K mg "_law_by" s_l_by ["_law_cycle_here", "_law_windows", "_law_start"] f fd) : FnOk P w K mg base CX0 1 f fd ["_law_cycle_here", "_law_windows", "_law_start"] spBy := by
  refine Dl_by.F.ok scl_by (fun vs H Q E h => ?_) (fun cdv A outer s H vs Q E hr h => ⟨_, (pss_cons (ps_set (i := 3) scl_by.nd rfl (Or.inl rfl) (pe_lst pa_nil))
  (pss_cons (ps_for PassesOwn.never rfl (pi_list (pv 1)) (pg_tup rfl (pgs_cons (pg_name (i := 4) scl_by.nd rfl (Or.inl rfl)) (pgs_cons (pg_name (i := 5) scl_by.nd rfl (Or.inl rfl)) (pgs_cons (pg_name (i := 6) scl_by.nd rfl (Or.inl rfl)) pgs_nil))))
   (pss_cons (ps_set (i := 7) scl_by.nd rfl (Or.inl rfl) (pe_op op_sub pe_int (pe_op op_mulW (pe_op op_fdivW (pe_op op_sub (pv 5) (pv 2)) (pv 0)) (pv 0))))
  (pss_one (ps_expr (pe_bm PySem.F.plainAttrs_list PySem.F.slot_list_append PySem.F.type_list_append mt_append (pv 3) (pa_cons (pe_op op_add (pe_callB (call_max2 rfl) (by rfl) B.n_max (by decide +kernel) (pa_cons (pv 2) (pa_cons (pe_op op_add (pv 4) (pv 7)) pa_nil))) (pv 6)) pa_nil))))))
  (pss_one (ps_ret (pe_callB (cr_min rfl) (by rfl) B.n_min (by decide +kernel) (pa_cons (pv 3) pa_nil)))))), ?_⟩)
  · obtain ⟨L, c, x, xs, ws, rfl, _⟩ := h; rfl
  · obtain ⟨L, c, x, xs, ws, rfl, hL, hX, ne, len, c1, c30, good, xb, q⟩ := h
    refine ⟨Nat.zero_le _, fun D hD => ?_⟩
    refine ⟨_, rfl, L, rfl, ⟨_, SqL.of (Same.new hD _ _ hL)⟩, ?_⟩
    refine for_list (xs := xs) (fun i σ H' => ∃ (vs : List Int) (y4 y5 y6 y7 : Option V), σ = [some (.int c), some (.ref L), some (.int x), some (.ref D), y4, y5, y6, y7] ∧ Same H H' ∧ H' D = some (.lst (vs.map V.int)) ∧ vs = (ws.take i).map fun w => Pm.F c (winZ w) x)
      ⟨[], none, none, none, none, rfl, Same.new hD, upd_same, rfl⟩ (fun i σ H' _ ⟨_, _, _, _, _, _, s1, _⟩ => SqL.of (s1 _ _ hL)) ?_ ?_
    · rintro i v σ H1 hx ⟨vs, y4, y5, y6, y7, rfl, s1, eD, hv⟩
      obtain ⟨⟨a, l, t⟩, hg, b, rfl, hb⟩ := paired_at hX hx
      obtain ⟨g1, g2, g3, g4, g5⟩ := good _ (List.mem_of_getElem? hg)
      refine ⟨b, _, rfl, SqT.of (s1 _ _ hb), rfl, _, _, rfl, _, _, rfl, _, _, rfl, rfl, ?_⟩
      simp only [] at g1 g2 g3 g4 g5
      have z30 : (10 : Int) ^ 30 < ((2 ^ 100 : Nat) : Int) := by decide +kernel
      have cb : c.natAbs < 2 ^ 100 := natAbs_lt (by omega) (by omega)
      have eb : (10 : Int) ^ 50 < ((2 ^ 200 : Nat) : Int) ∧ (10 : Int) ^ 30 < ((2 ^ 200 : Nat) : Int) := by decide +kernel
      have db : ((l - x) / c).natAbs < 2 ^ 210 := by
        have := Int.natAbs_ediv_le_natAbs (l - x) c
        have e2 : (2 : Nat) ^ 200 + 2 ^ 200 + 2 ^ 200 ≤ 2 ^ 210 := by decide +kernel
        omega
      refine ⟨_, rfl, _, rfl, _, _, rfl, rfl, _, rfl, _, _, rfl, rfl, wide_div (b := 100) (by omega) cb (by decide) (by decide), _, rfl, _, _, rfl, rfl, wide_mul (a := 210) (b := 100) db cb (by decide) (by decide) (by decide), _, _, rfl, rfl, ?_⟩
      show gName 7 (V.int (0 - (l - x) / c * c)) [some (.int c), some (.ref L), some (.int x), some (.ref D), some (.int a), some (.int l), some (.int t), y7] H1 _
      refine ⟨_, rfl, .inl ⟨rfl, _, SqL.of eD⟩, _, rfl, _, rfl, _, rfl, _, _, rfl, rfl, _, _, rfl, _, rfl, _, _, rfl, rfl, ?_⟩
      refine ⟨D, _, _, rfl, rfl, eD, by rw [List.length_map, hv, List.length_map, List.length_take]; exact smallL (by omega), ?_⟩
      refine ⟨vs ++ [Pm.F c (winZ (a, l, t)) x], _, _, _, _, rfl, same_upd s1 hD, ?_, ?_⟩
      · rw [upd_same, List.map_append, show Pm.F c (winZ (a, l, t)) x = _ from Pm.FaF c1 g3 g4 (ok_win c1 g3 g4)]
        rfl
      · rw [hv, List.take_add_one, hg, List.map_append]; rfl
    · rintro σ H1 ⟨vs, y4, y5, y6, y7, rfl, s1, eD, hv⟩
      have lx := paired_len hX
      rw [List.take_of_length_le (by omega)] at hv
      have lw : 1 ≤ ws.length := by
        cases ws with
        | nil => exact absurd rfl ne
        | cons _ _ => simp
      refine ⟨_, rfl, D, vs, rfl, SqL.of eD, by rw [hv, List.length_map]; omega, fun v hm hle => ?_⟩
      exact q v H1 s1 (by rw [← hv]; exact ⟨hm, hle⟩)
end
end Gr

set_option Elab.async false
set_option linter.all false
set_option maxRecDepth 100000
set_option maxHeartbeats 4000000
set_option exponentiation.threshold 3000
namespace Gr
open PySem PySem.Spec PyProof.Rows L2
open Pm (Rn)
open Few
/-! ### why no fewer windows do -/
/-- nowhere sooner -/
def Late (c : Int) (F : Int → Int) (w : Rn) : Prop := GoodW c w ∧ ∀ x, F x ≤ Pm.F c (winZ w) x
section
variable {c g : Int} {F : Int → Int}
theorem late_in (m : Pm.Mono c F) {w : Rn} (h : Late c F w) (k x : Int) (a : w.1 + k * c ≤ x) (b : x ≤ w.2.1 + k * c) : Pm.F c (winZ w) x = x + w.2.2 ∧ Dn F x ≤ w.2.2 := by
  obtain ⟨⟨g1, g2, g3, g4, g5⟩, low⟩ := h
  have e : Pm.F c (winZ w) x = x + w.2.2 := (ok_win m.c1 g3 g4 (t := w.2.2)).F_G ⟨_, List.mem_singleton_self _, k, a, b, by simp only []; omega⟩
  have := low x
  unfold Dn
  exact ⟨e, by omega⟩
theorem late_last (m : Pm.Mono c F) {w : Rn} (h : Late c F w) {s : Int} (l : Ls F s) (e : Pm.F c (winZ w) s = F s) : ∃ k : Int, w.1 + k * c ≤ s ∧ s ≤ w.2.1 + k * c ∧ w.2.2 = Dn F s := by
  have c1 := m.c1
  obtain ⟨g1, g2, g3, g4, g5⟩ := h.1
  have val : Pm.F c (winZ w) s = (if s < w.1 + (0 - (w.2.1 - s) / c * c) then w.1 + (0 - (w.2.1 - s) / c * c) else s) + w.2.2 := Pm.FaF c1 g3 g4 (ok_win c1 g3 g4)
  have tr := Pm.turn_rng c w.2.1 s c1
  have e0 : -((w.2.1 - s) / c) * c = 0 - (w.2.1 - s) / c * c := by rw [Int.neg_mul]; omega
  by_cases k : s < w.1 + (0 - (w.2.1 - s) / c * c)
  · exfalso
    rw [if_pos k] at val
    have b := (late_in m h (-((w.2.1 - s) / c)) (w.1 + (0 - (w.2.1 - s) / c * c)) (by omega) (by omega)).1
    have lo := h.2 (w.1 + (0 - (w.2.1 - s) / c * c))
    have up := m.up (s + 1) (w.1 + (0 - (w.2.1 - s) / c * c)) (by omega)
    unfold Ls at l
    omega
  · rw [if_neg k] at val
    refine ⟨-((w.2.1 - s) / c), by omega, tr.2, ?_⟩
    unfold Dn
    omega
/-- the start that a window has for itself -/
def Own (c : Int) (F : Int → Int) (g : Int) (w : Rn) (x : Int) : Prop := 0 ≤ x ∧ x < c ∧ Sd F w.2.2 x ∧ (w.2.2 = g ∨ x = w.1)
theorem own_ex (m : Pm.Mono c F) {w : Rn} (h : TW c F g w) : ∃ x, Own c F g w x := by
  have c1 := m.c1
  rcases h with ⟨rfl, s, hs⟩ | ⟨w0, wc, e, hw⟩
  · have q := Int.emod_add_mul_ediv s c
    rw [Int.mul_comm] at q
    refine ⟨s % c, Int.emod_nonneg s (by omega), Int.emod_lt_of_pos s (by omega), ?_, .inl rfl⟩
    have := (sd_per m g (s % c) (s / c))
    rw [q] at this
    exact this.mp hs
  · exact ⟨w.1, w0, wc, hw.ha, .inr rfl⟩
theorem own_lt (m : Pm.Mono c F) {u v w : Rn} {a b : Int} (hw : Late c F w) (hv : Win F v) (d1 : u.2.2 = w.2.2) (d2 : v.2.2 = w.2.2) {k1 k2 : Int} (su : Sd F u.2.2 u.1) (p1 : w.1 + k1 * c ≤ u.1) (p2 : u.1 ≤ w.2.1 + k1 * c) (q1 : w.1 + k2 * c ≤ v.1) (q2 : v.1 ≤ w.2.1 + k2 * c) : ¬ u.1 - k1 * c < v.1 - k2 * c := fun lt => by
  obtain ⟨e, hv⟩ := hv
  obtain ⟨x, x1, x2, x3⟩ := hv.lf
  by_cases k : u.1 - k1 * c ≤ x - k2 * c
  · have := (late_in m hw k2 x (by omega) (by omega)).2
    omega
  · have s2 := (sd_per m u.2.2 u.1 (k2 - k1)).mpr su
    rw [Int.sub_mul] at s2
    exact x3 (u.1 + (k2 * c - k1 * c)) (by omega) (by omega) (by rw [d2, ← d1]; exact s2)
theorem own_one (m : Pm.Mono c F) (top : ∀ x, Dn F x ≤ g) {u v w : Rn} {x y : Int} (hw : Late c F w) (hu : TW c F g u) (hv : TW c F g v) (ox : Own c F g u x) (oy : Own c F g v y) (mx : Pm.F c (winZ w) x = F x) (my : Pm.F c (winZ w) y = F y) : u = v := by
  have c1 := m.c1
  obtain ⟨x0, x1, sx, hx⟩ := ox
  obtain ⟨y0, y1, sy, hy⟩ := oy
  obtain ⟨k1, p1, p2, p3⟩ := late_last m hw sx.1 mx
  obtain ⟨k2, q1, q2, q3⟩ := late_last m hw sy.1 my
  have d1 : u.2.2 = w.2.2 := by rw [p3]; exact sx.2.symm
  have d2 : v.2.2 = w.2.2 := by rw [q3]; exact sy.2.symm
  by_cases dg : w.2.2 = g
  · have key : ∀ u : Rn, TW c F g u → u.2.2 = g → u = (0, c - 1, g) := fun u h e => by
      rcases h with ⟨h, _⟩ | ⟨_, _, h⟩
      · exact h
      · have := h.lt top; omega
    rw [key u hu (by omega), key v hv (by omega)]
  · have ex : x = u.1 := by
      rcases hx with h | h
      · omega
      · exact h
    have ey : y = v.1 := by
      rcases hy with h | h
      · omega
      · exact h
    subst ex ey
    have wu : Win F u := by
      rcases hu with ⟨h, _⟩ | ⟨_, _, h⟩
      · rw [h] at d1; exact absurd d1.symm dg
      · exact h
    have wv : Win F v := by
      rcases hv with ⟨h, _⟩ | ⟨_, _, h⟩
      · rw [h] at d2; exact absurd d2.symm dg
      · exact h
    have n1 := own_lt (a := 0) (b := 0) m hw wv d1 d2 sx p1 p2 q1 q2
    have n2 := own_lt (a := 0) (b := 0) m hw wu d2 d1 sy q1 q2 p1 p2
    have eq : u.1 - k1 * c = v.1 - k2 * c := by omega
    have ee : u.1 = v.1 := by
      rcases Int.lt_trichotomy k1 k2 with q | q | q
      · have : (k1 + 1) * c ≤ k2 * c := Int.mul_le_mul_of_nonneg_right (by omega) (by omega)
        rw [Int.add_mul, Int.one_mul] at this
        omega
      · rw [q] at eq; omega
      · have : (k2 + 1) * c ≤ k1 * c := Int.mul_le_mul_of_nonneg_right (by omega) (by omega)
        rw [Int.add_mul, Int.one_mul] at this
        omega
    have le : u.1 ≤ u.2.1 := by obtain ⟨e, h⟩ := wu; exact h.le
    exact wu.uniq wv (by omega) (by omega) (by omega)
end
/-! ### covers -/
def Cvr (S : List (List Int)) (L : List Int) (n : Nat) : Prop := ∃ T : List (List Int), T.length = n ∧ (∀ A ∈ T, A ∈ S) ∧ ∀ x ∈ L, ∃ A ∈ T, x ∈ A
/-- the least number of sets -/
def MinC (S : List (List Int)) (L : List Int) (n : Nat) : Prop := Cvr S L n ∧ ∀ k, Cvr S L k → n ≤ k
theorem MinC.nil (S : List (List Int)) : MinC S [] 0 := ⟨⟨[], rfl, fun _ h => (List.not_mem_nil h).elim, fun _ h => (List.not_mem_nil h).elim⟩, fun _ _ => Nat.zero_le _⟩
theorem cvr_all {S : List (List Int)} : ∀ {L : List Int}, (∀ x ∈ L, ∃ A ∈ S, x ∈ A) → Cvr S L L.length
  | [], _ => ⟨[], rfl, fun _ h => (List.not_mem_nil h).elim, fun _ h => (List.not_mem_nil h).elim⟩
  | x :: L, h => by
    obtain ⟨T, lt, hT, cov⟩ := cvr_all fun y hy => h y (List.mem_cons_of_mem _ hy)
    obtain ⟨A, hA, xA⟩ := h x (by simp)
    refine ⟨A :: T, by simp [lt], fun B hB => ?_, fun y hy => ?_⟩
    · rcases List.mem_cons.mp hB with rfl | k
      · exact hA
      · exact hT B k
    · rcases List.mem_cons.mp hy with rfl | k
      · exact ⟨A, by simp, xA⟩
      · obtain ⟨B, hB, yB⟩ := cov y k
        exact ⟨B, List.mem_cons_of_mem _ hB, yB⟩
theorem cvr_cons {S : List (List Int)} {L : List Int} {A : List Int} {n : Nat} (hA : A ∈ S) (h : Cvr S (L.filter fun y => decide (y ∉ A)) n) : Cvr S L (n + 1) := by
  obtain ⟨T, lt, hT, cov⟩ := h
  refine ⟨A :: T, by simp [lt], fun B hB => ?_, fun y hy => ?_⟩
  · rcases List.mem_cons.mp hB with rfl | k
    · exact hA
    · exact hT B k
  · by_cases k : y ∈ A
    · exact ⟨A, by simp, k⟩
    · obtain ⟨B, hB, yB⟩ := cov y (List.mem_filter.mpr ⟨hy, by simp [k]⟩)
      exact ⟨B, List.mem_cons_of_mem _ hB, yB⟩
theorem cvr_less {S : List (List Int)} {x : Int} {L : List Int} {n : Nat} (h : Cvr S (x :: L) n) : ∃ A ∈ S, x ∈ A ∧ ∃ k, n = k + 1 ∧ Cvr S ((x :: L).filter fun y => decide (y ∉ A)) k := by
  obtain ⟨T, lt, hT, cov⟩ := h
  obtain ⟨A, hA, xA⟩ := cov x (by simp)
  obtain ⟨T1, T2, rfl⟩ := List.append_of_mem hA
  refine ⟨A, hT A hA, xA, (T1 ++ T2).length, by rw [← lt]; simp; omega, T1 ++ T2, rfl, fun B hB => hT B ?_, fun y hy => ?_⟩
  · rcases List.mem_append.mp hB with k | k
    · exact List.mem_append_left _ k
    · exact List.mem_append_right _ (List.mem_cons_of_mem _ k)
  · obtain ⟨hy, ny⟩ := List.mem_filter.mp hy
    have ny : y ∉ A := by simpa using ny
    obtain ⟨B, hB, yB⟩ := cov y hy
    rcases List.mem_append.mp hB with k | k
    · exact ⟨B, List.mem_append_left _ k, yB⟩
    · rcases List.mem_cons.mp k with rfl | k
      · exact absurd yB ny
      · exact ⟨B, List.mem_append_right _ k, yB⟩
theorem nodup_leG {α : Type} : ∀ {A B : List α}, A.Nodup → (∀ x ∈ A, x ∈ B) → A.length ≤ B.length
  | [], _, _, _ => Nat.zero_le _
  | a :: A, B, h, s => by
    obtain ⟨n1, n2⟩ := List.nodup_cons.mp h
    obtain ⟨B1, B2, rfl⟩ := List.append_of_mem (s a (by simp))
    have := nodup_leG (B := B1 ++ B2) n2 fun x hx => by
      have ne : x ≠ a := fun e => n1 (e ▸ hx)
      rcases List.mem_append.mp (s x (List.mem_cons_of_mem _ hx)) with k | k
      · exact List.mem_append_left _ k
      · rcases List.mem_cons.mp k with k | k
        · exact absurd k ne
        · exact List.mem_append_right _ k
    simp at this ⊢
    omega
/-- as many sets as windows -/
theorem few_cover {c g : Int} {F : Int → Int} (m : Pm.Mono c F) (top : ∀ x, Dn F x ≤ g) {ws : List Rn} {S : List (List Int)} {L : List Int} (nd : ws.Nodup) (tw : ∀ w ∈ ws, TW c F g w) (hL : ∀ x, x ∈ L ↔ 0 ≤ x ∧ x < c)
    (sets : ∀ A ∈ S, ∃ w, Late c F w ∧ ∀ x ∈ A, Pm.F c (winZ w) x = F x) (cov : Cvr S L ws.length) : MinC S L ws.length := by
  refine ⟨cov, fun n ⟨T, lt, hT, ct⟩ => ?_⟩
  classical
  have pick : ∀ w, ∃ A : List Int, w ∈ ws → A ∈ T ∧ ∃ x, Own c F g w x ∧ x ∈ A := fun w => by
    by_cases h : w ∈ ws
    · obtain ⟨x, hx⟩ := own_ex m (tw w h)
      obtain ⟨A, hA, xA⟩ := ct x ((hL x).mpr ⟨hx.1, hx.2.1⟩)
      exact ⟨A, fun _ => ⟨hA, x, hx, xA⟩⟩
    · exact ⟨[], fun k => absurd k h⟩
  let f : Rn → List Int := fun w => (pick w).choose
  have hf : ∀ w ∈ ws, f w ∈ T ∧ ∃ x, Own c F g w x ∧ x ∈ f w := fun w hw => (pick w).choose_spec hw
  have nd2 : (ws.map f).Nodup := by
    rw [List.nodup_iff_pairwise_ne, List.pairwise_map]
    refine (List.nodup_iff_pairwise_ne.mp nd).imp_of_mem fun {u v} hu hv ne e => ne ?_
    obtain ⟨h1, x, ox, xA⟩ := hf u hu
    obtain ⟨_, y, oy, yA⟩ := hf v hv
    obtain ⟨w, hw, met⟩ := sets _ (hT _ h1)
    rw [← e] at yA
    exact own_one m top hw (tw u hu) (tw v hv) ox oy (met x xA) (met y yA)
  have := nodup_leG nd2 fun A hA => by
    obtain ⟨w, hw, rfl⟩ := List.mem_map.mp hA
    exact (hf w hw).1
  rw [List.length_map] at this
  omega
end Gr

set_option Elab.async false
set_option linter.all false
set_option pp.deepTerms false
set_option pp.maxSteps 3000
set_option maxRecDepth 100000
set_option maxHeartbeats 8000000
set_option exponentiation.threshold 3000
namespace Gr
open PySem PySem.Spec PyProof.Rows L2
open Pm (Rn)
open Few
/-- a list of the arrivals of one cycle -/
def TabL (c : Int) (A : Int → Int) (H : Hp) (L : Addr) : Prop := ∃ ts : List Int, H L = some (.lst (ts.map V.int)) ∧ (ts.length : Int) = c ∧ ∀ i : Nat, i < ts.length → ts[i]? = some (A i)
theorem TabL.mono {c : Int} {A : Int → Int} {H H' : Hp} {L : Addr} (s : Same H H') (h : TabL c A H L) : TabL c A H' L := by
  obtain ⟨ts, h1, h2⟩ := h
  exact ⟨ts, s _ _ h1, h2⟩
/-- the starts that a window meets -/
noncomputable def metL (c : Int) (F : Int → Int) (w : Rn) : List Int := ((List.range c.toNat).filter fun n : Nat => decide (Pm.F c (winZ w) (n : Int) = F (n : Int))).map fun n : Nat => (n : Int)
theorem mem_met {c : Int} {F : Int → Int} {w : Rn} {x : Int} : x ∈ metL c F w ↔ 0 ≤ x ∧ x < c ∧ Pm.F c (winZ w) x = F x := by
  unfold metL
  rw [List.mem_map]
  constructor
  · rintro ⟨n, hn, rfl⟩
    obtain ⟨h1, h2⟩ := List.mem_filter.mp hn
    rw [List.mem_range] at h1
    exact ⟨by omega, by omega, of_decide_eq_true h2⟩
  · rintro ⟨x0, x1, e⟩
    obtain ⟨n, rfl⟩ := Int.eq_ofNat_of_zero_le x0
    exact ⟨n, List.mem_filter.mpr ⟨List.mem_range.mpr (by omega), decide_eq_true e⟩, rfl⟩
theorem met_pw {c : Int} {F : Int → Int} {w : Rn} : (metL c F w).Pairwise (· < ·) := by
  unfold metL
  rw [List.pairwise_map]
  exact (List.Pairwise.filter _ List.pairwise_lt_range).imp fun {a b} h => by omega
def IntsAt (H : Hp) (x : V) (A : List Int) : Prop := ∃ a, x = .ref a ∧ H a = some (.lst (A.map V.int))
/-- as IntsAt, not the list D itself -/
def IntsN (D : Addr) (H : Hp) (x : V) (A : List Int) : Prop := ∃ a, x = .ref a ∧ a ≠ D ∧ H a = some (.lst (A.map V.int))
theorem IntsN.mono {D : Addr} {H H' : Hp} {xs : List V} {S : List (List Int)} (s : Same H H') (h : Paired (IntsN D H) xs S) : Paired (IntsN D H') xs S := L2.Paired.mapP h fun _ _ ⟨a, e, n, h⟩ => ⟨a, e, n, s _ _ h⟩
theorem IntsN.upd {D : Addr} {H : Hp} {o : HO} {xs : List V} {S : List (List Int)} (h : Paired (IntsN D H) xs S) : Paired (IntsN D (upd H D o)) xs S := L2.Paired.mapP h fun _ _ ⟨a, e, n, h⟩ => ⟨a, e, n, by rw [upd_ne n]; exact h⟩
def SetsAt (H : Hp) (L : Addr) (S : List (List Int)) : Prop := ∃ xs, H L = some (.lst xs) ∧ Paired (IntsAt H) xs S
structure Sets (c : Int) (F : Int → Int) (S : List (List Int)) (rng : Rn → Prop) : Prop where
  one : ∀ A ∈ S, ∃ w, Late c F w ∧ A = metL c F w
  all : ∀ w, rng w → Late c F w → metL c F w ≠ [] → metL c F w ∈ S
def intsD (ns : List Int) : PyData := .list (ns.map PyData.int)
theorem dp_ints {K : PySem.W.Frag} {H : Hp} : ∀ ns : List Int, DpAll K H (ns.map V.int) (ns.map PyData.int)
  | [] => .nil
  | n :: ns => .cons (.int n) (dp_ints ns)
theorem shaped_ints (ns : List Int) : SeqAt.shaped (intsD ns) = true := by
  have lay : ∀ ns : List Int, PyData.canLayAll0 (ns.map PyData.int) = true := by
    intro ns
    induction ns with
    | nil => simp [PyData.canLayAll0]
    | cons n ns ih => simp [PyData.canLayAll0, PyData.canLay0, ih]
  have dep : ∀ ns : List Int, PyData.depthAll (ns.map PyData.int) ≤ 3 := by
    intro ns
    induction ns with
    | nil => simp [PyData.depthAll]
    | cons n ns ih => simp only [List.map_cons, PyData.depthAll, PyData.depth]; omega
  have h := dep ns
  unfold SeqAt.shaped intsD
  rw [Bool.and_eq_true]
  refine ⟨by simpa only [PyData.canLay0] using lay ns, decide_eq_true ?_⟩
  simp only [PyData.depth]
  omega
theorem eqv_ints_nil : ∀ ns : List Int, PyData.eqv (intsD ns) (.list []) = ns.isEmpty
  | [] => by decide +kernel
  | n :: ns => by simp [intsD, PyData.eqv, PyData.eqvAll]
theorem late_of {c : Int} {F : Int → Int} {w : Rn} (mo : Pm.Mono c F) (g : GoodW c w) (h : ∀ n : Nat, (n : Int) < c → ¬ Pm.F c (winZ w) (n : Int) < F (n : Int)) : Late c F w := by
  have c1 := mo.c1
  have mw := (ok_win c1 g.2.2.1 g.2.2.2.1 (t := w.2.2)).mono
  refine ⟨g, fun x => ?_⟩
  have e := Int.emod_add_mul_ediv x c
  rw [Int.mul_comm] at e
  have p1 := mo.per (x % c) (x / c)
  have p2 := mw.per (x % c) (x / c)
  rw [e] at p1 p2
  have q0 := Int.emod_nonneg x (show c ≠ 0 by omega)
  have q1 := Int.emod_lt_of_pos x (show 0 < c by omega)
  obtain ⟨n, hn⟩ := Int.eq_ofNat_of_zero_le q0
  have := h n (by omega)
  rw [hn] at p1 p2
  show F x ≤ Pm.F c (winZ w) x
  have p2' : Pm.F c (winZ w) x = Pm.F c (winZ w) (n : Int) + x / c * c := p2
  omega
def spAble : Sp := fun vs H Q _ => ∃ (L : Addr) (c : Int) (F : Int → Int), vs = [.int c, .ref L] ∧ TabL c F H L ∧ Pm.Mono c F ∧ c ≤ 6 ∧ (∀ s, 0 ≤ Dn F s) ∧ ∀ Lr H' S, Same H H' → SetsAt H' Lr S → Sets c F S (fun w => ∃ s, w.2.2 = Dn F s) → S.length ≤ 216 → Q (.ref Lr) H'
section
variable {P : Program} {w : World} {K : PySem.W.Frag} {mg : Str → Option Value} {base : Heap} {tC : Tok}
theorem ok_able {f f1 : Addr} {fd fd1 : FuncData} (B : Blt mg tC) (Dl_able : Def K mg "_law_able" s_l_able ["_law_cycle_here", "_law_table"] f fd) (Dl_by : Def K mg "_law_by" s_l_by ["_law_cycle_here", "_law_windows", "_law_start"] f1 fd1) : FnOk P w K mg base CX0 2 f fd ["_law_cycle_here", "_law_table"] spAble := by
  have Gl_by := ok_by (P := P) (w := w) (base := base) B Dl_by
  refine Dl_able.F.ok scl_able (fun vs H Q E h => ?_) (fun cdv A outer s H vs Q E hr h => ⟨_, (pss_cons (ps_set (i := 2) scl_able.nd rfl (Or.inl rfl) (pe_lst pa_nil))
  (pss_cons (ps_for PassesOwn.never rfl (pi_range1 (by rfl) B.range (pa_cons (pv 0) pa_nil)) (pg_name (i := 3) scl_able.nd rfl (Or.inr rfl))
   (pss_one (ps_for PassesOwn.never rfl (pi_range2 (by rfl) B.range (pa_cons (pv 3) (pa_cons (pe_op op_add (pv 3) (pv 0)) pa_nil))) (pg_name (i := 4) scl_able.nd rfl (Or.inr rfl))
   (pss_one (ps_for PassesOwn.never rfl (pi_list (pe_sortSet rfl (by rfl) B.n_sorted (by rfl) B.n_set (pe_lc (own := [("_law_start", 6), ("_law_one", 7)]) (g := (gTup K 2 (gCons (gName 6) (gCons (gName 7) gNil)))) (tt := tYes) rfl scl_able.nd (pi_enum (by rfl) B.n_enumerate (pa_cons (pv 1) pa_nil)) (blkOk_by (N := ["_law_cycle_here", "_law_table", "_law_found", "_law_first", "_law_last", "_law_travel", "_law_start", "_law_one", "_law_rows_here", "_law_met", "_law_sooner"]) (sc := defScope s_l_able) (by decide +kernel)) (fun _ _ _ _ _ => (pg_tup rfl (pgs_cons (pg_name (i := 6) scl_able.nd rfl (Or.inl rfl)) (pgs_cons (pg_name (i := 7) scl_able.nd rfl (Or.inl rfl)) pgs_nil)))) (fun _ _ _ _ _ => pts_nil) (fun _ _ _ _ _ => (pe_op op_sub (pv 7) (pv 6)))))) (pg_name (i := 5) scl_able.nd rfl (Or.inr rfl))
   (pss_cons (ps_set (i := 8) scl_able.nd rfl (Or.inr rfl) (pe_lc (own := [("_law_start", 6)]) (g := (gName 6)) (tt := tYes) rfl scl_able.nd (pi_range1 (by rfl) B.range (pa_cons (pv 0) pa_nil)) (blkOk_by (N := ["_law_cycle_here", "_law_table", "_law_found", "_law_first", "_law_last", "_law_travel", "_law_start", "_law_one", "_law_rows_here", "_law_met", "_law_sooner"]) (sc := defScope s_l_able) (by decide +kernel)) (fun _ _ _ _ _ => (pg_name (i := 6) scl_able.nd rfl (Or.inl rfl))) (fun _ _ _ _ _ => pts_nil) (fun _ _ _ _ _ => (pe_call Gl_by (hr.mono (by decide)) (by rfl) Dl_by.g Dl_by.F.kp Dl_by.b .nil pass0 (pa_cons (pv 0) (pa_cons (pe_lst (pa_cons (pe_tup (pa_cons (pv 3) (pa_cons (pv 4) (pa_cons (pv 5) pa_nil)))) pa_nil)) (pa_cons (pv 6) pa_nil)))))))
  (pss_cons (ps_setLc (i := 9) (own := [("_law_start", 6)]) (g := (gName 6))  rfl scl_able.nd rfl rfl (sw_true rfl rfl rfl (by decide +kernel)) (pi_range1 (by rfl) B.range (pa_cons (pv 0) pa_nil)) (blkOk_by (N := ["_law_cycle_here", "_law_table", "_law_found", "_law_first", "_law_last", "_law_travel", "_law_start", "_law_one", "_law_rows_here", "_law_met", "_law_sooner"]) (sc := defScope s_l_able) (by decide +kernel)) (fun _ _ _ _ _ => (pg_name (i := 6) scl_able.nd rfl (Or.inl rfl))) (fun _ _ _ _ _ => pts_one (pt_cmpR op_eq (pe_ix (r := rIxL K) (by exact ix_list) (pv 8) (pv 6) (fun _ _ => rfl)) (pe_ix (r := rIxL K) (by exact ix_list) (pv 1) (pv 6) (fun _ _ => rfl)) (nomark _))) (fun _ _ _ _ _ => (pv 6)))
  (pss_cons (ps_setLc (i := 10) (own := [("_law_start", 6)]) (g := (gName 6))  rfl scl_able.nd rfl rfl (sw_true rfl rfl rfl (by decide +kernel)) (pi_range1 (by rfl) B.range (pa_cons (pv 0) pa_nil)) (blkOk_by (N := ["_law_cycle_here", "_law_table", "_law_found", "_law_first", "_law_last", "_law_travel", "_law_start", "_law_one", "_law_rows_here", "_law_met", "_law_sooner"]) (sc := defScope s_l_able) (by decide +kernel)) (fun _ _ _ _ _ => (pg_name (i := 6) scl_able.nd rfl (Or.inl rfl))) (fun _ _ _ _ _ => pts_one (pt_cmpR op_lt (pe_ix (r := rIxL K) (by exact ix_list) (pv 8) (pv 6) (fun _ _ => rfl)) (pe_ix (r := rIxL K) (by exact ix_list) (pv 1) (pv 6) (fun _ _ => rfl)) (nomark _))) (fun _ _ _ _ _ => (pv 6)))
  (pss_one (ps_if (PW.pt (pw_and (pt_cmpR (op_eqD hr.units) (pv 10) (pe_lst pa_nil) (nomark _)) (pw_and (pt_cmpR (op_neD hr.units) (pv 9) (pe_lst pa_nil) (nomark _)) (pw_and1 (pt_cmpR op_ge (pv 5) pe_int (nomark _))))))
   (pss_one (ps_expr (pe_bm PySem.F.plainAttrs_list PySem.F.slot_list_append PySem.F.type_list_append mt_append (pv 2) (pa_cons (pv 9) pa_nil))))
   pss_nil))))))))))
  (pss_one (ps_ret (pv 2))))), ?_⟩)
  · obtain ⟨L, c, F, rfl, _⟩ := h; rfl
  · obtain ⟨L, c, F, rfl, ⟨ts, hL, lc, ht⟩, mo, c6, nn, q⟩ := h
    have tab : TabL c F H L := ⟨ts, hL, lc, ht⟩
    have c1 := mo.c1
    have three : 3 ≤ sizeLine := by decide
    have one : 1 ≤ sizeLine := by decide
    obtain ⟨rng, hrng⟩ : ∃ rng : Rn → Prop, rng = fun w => ∃ s, w.2.2 = Dn F s := ⟨_, rfl⟩
    refine ⟨Nat.zero_le _, fun D hD => ?_⟩
    refine ⟨_, rfl, c, rfl, by omega, by omega, ?_⟩
    refine for_range (lo := 0) (n := c.toNat) (fun i σ H' => ∃ (xs : List V) (S : List (List Int)) (y3 y4 y5 y6 y7 y8 y9 y10 : Option V), σ = [some (.int c), some (.ref L), some (.ref D), y3, y4, y5, y6, y7, y8, y9, y10] ∧ Same H H' ∧ H' D = some (.lst xs) ∧ Paired (IntsN D H') xs S ∧ S.length ≤ 36 * i ∧ (∀ A ∈ S, ∃ w, Late c F w ∧ A = metL c F w) ∧ ∀ w, rng w → Late c F w → metL c F w ≠ [] → w.1 < i → metL c F w ∈ S)
      ⟨[], [], _, _, _, _, _, _, _, _, rfl, Same.new hD, upd_same, .nil, Nat.zero_le _, fun A h => (List.not_mem_nil h).elim, fun w _ h _ l => by have := h.1.1; omega⟩ ?_ ?_
    · rintro i σ H1 hi ⟨xs, S, y3, y4, y5, y6, y7, y8, y9, y10, rfl, s1, eD, hX, lS, p1, p2⟩
      refine ⟨_, rfl, _, rfl, _, rfl, _, _, rfl, rfl, _, _, rfl, ⟨by omega, by omega, by omega, by omega⟩, ?_⟩
      obtain ⟨f, hf⟩ : ∃ f : Int, f = 0 + (i : Int) := ⟨_, rfl⟩
      obtain ⟨n, hn⟩ : ∃ n, n = (0 + (i : Int) + c - (0 + (i : Int))).toNat := ⟨_, rfl⟩
      rw [← hn, ← hf]
      refine for_range (lo := f) (n := n) (fun j σ H' => ∃ (xs : List V) (S : List (List Int)) (y4 y5 y6 y7 y8 y9 y10 : Option V), σ = [some (.int c), some (.ref L), some (.ref D), some (.int f), y4, y5, y6, y7, y8, y9, y10] ∧ Same H H' ∧ H' D = some (.lst xs) ∧ Paired (IntsN D H') xs S ∧ S.length ≤ 36 * i + 6 * j ∧ (∀ A ∈ S, ∃ w, Late c F w ∧ A = metL c F w) ∧ ∀ w, rng w → Late c F w → metL c F w ≠ [] → (w.1 < i ∨ w.1 = i ∧ w.2.1 < f + j) → metL c F w ∈ S)
        ⟨xs, S, _, _, _, _, _, _, _, rfl, s1, eD, hX, by omega, p1, fun w a b d e => p2 w a b d (by have := b.1.2.2.1; omega)⟩ ?_ ?_
      · rintro j σ H2 hj ⟨xs, S, y4, y5, y6, y7, y8, y9, y10, rfl, s2, eD, hX, lS, p1, p2⟩
        obtain ⟨l, hl⟩ : ∃ l : Int, l = f + (j : Int) := ⟨_, rfl⟩
        rw [← hl]
        have hL2 := s2 _ _ hL
        refine ⟨_, rfl, L, _, rfl, SqL.of hL2, fun W hW => ?_⟩
        refine lc_it (walk_enum (xs := ts.map V.int)) (fun i H' => Same H2 H' ∧ H' W = some (.lst (((List.range i).map fun k : Nat => Dn F (k : Int)).map V.int))) ⟨Same.new hW, upd_same⟩ (fun i H' _ ⟨s1, _⟩ => SqL.of (s1 _ _ hL2)) ?_ ?_
        · rintro i x H3 H4 hi ⟨s3, e3⟩ ⟨T, u, v, rfl, hT, rfl, hu, hv⟩
          cases hu
          rw [List.length_map] at hi
          replace hv : (ts.map V.int)[i]? = some v := hv
          rw [List.getElem?_map, ht i hi] at hv
          obtain rfl := Option.some.inj hv
          have nT : W ≠ T := fun e => by rw [← e, e3] at hT; cases hT
          refine ⟨T, _, rfl, SqT.of upd_same, rfl, _, _, rfl, _, _, rfl, rfl, rfl, ?_⟩
          refine ⟨_, rfl, _, rfl, _, _, rfl, rfl, ?_⟩
          refine ⟨_, by rw [upd_ne nT]; exact e3, by rw [List.length_map, List.length_map, List.length_range]; exact smallL (by omega), same_upd (s3.trans (Same.new hT)) hW, ?_⟩
          rw [upd_same, List.range_succ, List.map_append, List.map_append]; rfl
        rintro H3 ⟨s3, e3⟩
        rw [List.length_map] at e3
        refine ⟨W, _, rfl, SqL.of e3, by rw [List.length_map, List.length_range]; omega, fun M ms pw mem hM => ?_⟩
        have nMD : M ≠ D := fun e => by rw [e, s3 _ _ eD] at hM; cases hM
        have sM := Same.new hM (o := .lst (ms.map V.int))
        have eM : (upd H3 M (.lst (ms.map V.int))) M = some (.lst (ms.map V.int)) := upd_same
        have s24 := s3.trans sM
        generalize upd H3 M (.lst (ms.map V.int)) = H4 at sM eM s24 ⊢
        have lms : ms.length ≤ 6 := by
          have := Pm.nodup_le (Pm.pw_nodup pw) (fun x hx => (mem x).mp hx)
          rw [List.length_map, List.length_range] at this
          omega
        refine ⟨M, rfl, ⟨_, SqL.of eM⟩, ?_⟩
        refine for_list (xs := ms.map V.int) (fun k σ H' => ∃ (xs : List V) (S : List (List Int)) (y5 y6 y7 y8 y9 y10 : Option V), σ = [some (.int c), some (.ref L), some (.ref D), some (.int f), some (.int l), y5, y6, y7, y8, y9, y10] ∧ Same H H' ∧ H' M = some (.lst (ms.map V.int)) ∧ H' D = some (.lst xs) ∧ Paired (IntsN D H') xs S ∧ S.length ≤ 36 * i + 6 * j + k ∧ (∀ A ∈ S, ∃ w, Late c F w ∧ A = metL c F w) ∧ ∀ w, rng w → Late c F w → metL c F w ≠ [] → (w.1 < i ∨ w.1 = i ∧ (w.2.1 < f + j ∨ w.2.1 = l ∧ w.2.2 ∈ ms.take k)) → metL c F w ∈ S)
          ⟨xs, S, _, _, _, _, _, _, rfl, s2.trans s24, eM, s24 _ _ eD, IntsN.mono s24 hX, by omega, p1, fun w a b d e => p2 w a b d (by simp at e; omega)⟩ (fun k σ H' _ ⟨_, _, _, _, _, _, _, _, _, _, h, _⟩ => SqL.of h) ?_ ?_
        · rintro k x σ H5 hx ⟨xs, S, y5, y6, y7, y8, y9, y10, rfl, s5, eM, eD, hX, lS, p1, p2⟩
          rw [List.getElem?_map] at hx
          cases hv : ms[k]? with
          | none => rw [hv] at hx; cases hx
          | some d =>
          rw [hv] at hx
          obtain rfl := Option.some.inj hx
          have dm := (mem d).mp (List.mem_of_getElem? hv)
          obtain ⟨s0, hs0, ed⟩ := List.mem_map.mp dm
          have kl := (List.getElem?_eq_some_iff.mp hv).1
          have d0 : 0 ≤ d := by have := nn (s0 : Int); omega
          have good : GoodW c (f, l, d) := ⟨by show 0 ≤ f; omega, by show f < c; omega, by show f ≤ l; omega, by show l < f + c; omega, d0⟩
          obtain ⟨Wf, hWf⟩ : ∃ Wf, Wf = Pm.F c (winZ (f, l, d)) := ⟨_, rfl⟩
          have hL5 := s5 _ _ hL
          refine ⟨_, rfl, c, rfl, by omega, by omega, fun R hR => ?_⟩
          have eMR : (upd H5 R (.lst [])) M = some (.lst (ms.map V.int)) := Same.new hR _ _ eM
          refine lc_range (lo := 0) (n := c.toNat) (fun i H' => Same H5 H' ∧ H' R = some (.lst (((List.range i).map fun k : Nat => Wf (k : Int)).map V.int))) ⟨Same.new hR, upd_same⟩ ?_ ?_
          · rintro m H6 hm ⟨s6, eR⟩
            have e50 : (100 : Int) ≤ 10 ^ 50 ∧ (6 : Int) ≤ 10 ^ 30 := by decide +kernel
            refine ⟨rfl, ?_⟩
            refine ⟨_, rfl, _, rfl, _, rfl, _, rfl, three, fun T hT => ⟨one, fun U hU => ?_⟩⟩
            have sT := Same.new hT (o := .tup [.int f, .int l, .int d])
            have sU := Same.new hU (o := .lst [.ref T])
            refine ⟨_, rfl, U, c, 0 + (m : Int), [.ref T], [(f, l, d)], rfl, upd_same, .cons ⟨T, rfl, sU _ _ upd_same⟩ .nil, by simp, by simp, c1, by omega, fun w hw => by rw [List.mem_singleton.mp hw]; exact good, by omega, fun v H7 s7 mv => ?_⟩
            have ev : v = Wf (m : Int) := by
              have := List.mem_singleton.mp (by simpa using mv.1 : v ∈ [Pm.F c (winZ (f, l, d)) (0 + (m : Int))])
              rw [this, hWf, Int.zero_add]
            have s67 := sT.trans (sU.trans s7)
            refine ⟨_, s67 _ _ eR, by simp only [List.length_map, List.length_range]; exact smallL (by omega), same_upd (s6.trans s67) hR, ?_⟩
            rw [upd_same, List.range_succ, List.map_append, List.map_append, ev]; rfl
          rintro H6 ⟨s6, eR⟩
          have rat : ∀ n : Nat, (n : Int) < c → atI (((List.range c.toNat).map fun k : Nat => Wf (k : Int)).map V.int) (0 + (n : Int)) = some (.int (Wf n)) := fun n hn => by
            rw [Int.zero_add]
            refine (atI_nat (j := n) ?_).trans rfl
            rw [List.getElem?_map, List.getElem?_map, List.getElem?_range (by omega)]; rfl
          have tat : ∀ n : Nat, (n : Int) < c → atI (ts.map V.int) (0 + (n : Int)) = some (.int (F n)) := fun n hn => by
            rw [Int.zero_add]
            refine (atI_nat (j := n) ?_).trans rfl
            rw [List.getElem?_map, ht n (by omega)]; rfl
          have hL6 := s6 _ _ hL5
          show gName 8 (V.ref R) [some (.int c), some (.ref L), some (.ref D), some (.int f), some (.int l), some (.int d), y6, y7, y8, y9, y10] H6 _
          refine ⟨_, rfl, c, rfl, by omega, by omega, fun Mt hMt => ?_⟩
          refine lc_range (lo := 0) (n := c.toNat) (fun i H' => Same H6 H' ∧ H' Mt = some (.lst ((((List.range i).filter fun n : Nat => decide (Wf (n : Int) = F (n : Int))).map fun n : Nat => (n : Int)).map V.int))) ⟨Same.new hMt, upd_same⟩ ?_ ?_
          · rintro m H7 hm ⟨s7, eT⟩
            refine ⟨rfl, ?_⟩
            refine ⟨_, rfl, _, rfl, R, _, _, _, rfl, rfl, SqL.of (s7 _ _ eR), rat m (by omega), _, rfl, _, rfl, L, _, _, _, rfl, rfl, SqL.of (s7 _ _ hL6), tat m (by omega), rfl, ?_⟩
            by_cases z : Wf (m : Int) = F (m : Int)
            · refine ⟨true, congrArg V.bl (decide_eq_true (congrArg V.int z)), ?_⟩
              refine iteT ?_
              refine ⟨_, rfl, _, eT, ?_, same_upd s7 hMt, ?_⟩
              · rw [List.length_map, List.length_map]
                refine smallL (Nat.le_trans (List.length_filter_le _ _) ?_)
                rw [List.length_range]; omega
              · rw [upd_same, List.range_succ, List.filter_append, List.map_append, List.map_append, Int.zero_add]
                have : List.filter (fun n : Nat => decide (Wf (n : Int) = F (n : Int))) [m] = [m] := by simp [z]
                rw [this]; rfl
            · refine ⟨false, congrArg V.bl (decide_eq_false fun e => z (V.int.inj e)), ?_⟩
              refine iteF ?_
              refine ⟨s7, ?_⟩
              rw [eT, List.range_succ, List.filter_append]
              have : List.filter (fun n : Nat => decide (Wf (n : Int) = F (n : Int))) [m] = [] := by simp [z]
              rw [this, List.append_nil]
          rintro H7 ⟨s7, eT⟩
          have mtL : ((List.range c.toNat).filter fun n : Nat => decide (Wf (n : Int) = F (n : Int))).map (fun n : Nat => (n : Int)) = metL c F (f, l, d) := by unfold metL; rw [hWf]
          rw [mtL] at eT
          have eR7 := s7 _ _ eR
          have hL7 := s7 _ _ hL6
          show gName 9 (V.ref Mt) [some (.int c), some (.ref L), some (.ref D), some (.int f), some (.int l), some (.int d), y6, y7, some (.ref R), y9, y10] H7 _
          refine ⟨_, rfl, c, rfl, by omega, by omega, fun So hSo => ?_⟩
          refine lc_range (lo := 0) (n := c.toNat) (fun i H' => Same H7 H' ∧ H' So = some (.lst ((((List.range i).filter fun n : Nat => decide (Wf (n : Int) < F (n : Int))).map fun n : Nat => (n : Int)).map V.int))) ⟨Same.new hSo, upd_same⟩ ?_ ?_
          · rintro m H8 hm ⟨s8, eS⟩
            refine ⟨rfl, ?_⟩
            refine ⟨_, rfl, _, rfl, R, _, _, _, rfl, rfl, SqL.of (s8 _ _ eR7), rat m (by omega), _, rfl, _, rfl, L, _, _, _, rfl, rfl, SqL.of (s8 _ _ hL7), tat m (by omega), _, _, rfl, rfl, ?_⟩
            by_cases z : Wf (m : Int) < F (m : Int)
            · refine ⟨true, congrArg V.bl (decide_eq_true z), ?_⟩
              refine iteT ?_
              refine ⟨_, rfl, _, eS, ?_, same_upd s8 hSo, ?_⟩
              · rw [List.length_map, List.length_map]
                refine smallL (Nat.le_trans (List.length_filter_le _ _) ?_)
                rw [List.length_range]; omega
              · rw [upd_same, List.range_succ, List.filter_append, List.map_append, List.map_append, Int.zero_add]
                have : List.filter (fun n : Nat => decide (Wf (n : Int) < F (n : Int))) [m] = [m] := by simp [z]
                rw [this]; rfl
            · refine ⟨false, congrArg V.bl (decide_eq_false z), ?_⟩
              refine iteF ?_
              refine ⟨s8, ?_⟩
              rw [eS, List.range_succ, List.filter_append]
              have : List.filter (fun n : Nat => decide (Wf (n : Int) < F (n : Int))) [m] = [] := by simp [z]
              rw [this, List.append_nil]
          rintro H8 ⟨s8, eS⟩
          obtain ⟨so, hso⟩ : ∃ so : List Int, so = ((List.range c.toNat).filter fun n : Nat => decide (Wf (n : Int) < F (n : Int))).map fun n : Nat => (n : Int) := ⟨_, rfl⟩
          rw [← hso] at eS
          have eT8 := s8 _ _ eT
          have s58 := s6.trans (s7.trans s8)
          have eM8 := s58 _ _ eM
          have eD8 := s58 _ _ eD
          have hX8 := IntsN.mono s58 hX
          have nMtD : Mt ≠ D := fun e => by rw [e, (s6 _ _ eD)] at hMt; cases hMt
          have lateI : so = [] ↔ Late c F (f, l, d) := by
            rw [hso, List.map_eq_nil_iff, List.filter_eq_nil_iff]
            constructor
            · intro h
              refine late_of mo good fun n hn z => h n (List.mem_range.mpr (by omega)) ?_
              rw [hWf]; exact decide_eq_true z
            · intro h n hn z
              have := of_decide_eq_true z
              have lo := h.2 (n : Int)
              rw [hWf] at this
              omega
          have step : ∀ w : Rn, (w.1 < i ∨ w.1 = i ∧ (w.2.1 < f + j ∨ w.2.1 = l ∧ w.2.2 ∈ ms.take (k + 1))) → (w.1 < i ∨ w.1 = i ∧ (w.2.1 < f + j ∨ w.2.1 = l ∧ w.2.2 ∈ ms.take k)) ∨ w = (f, l, d) := fun w h => by
            have tk : ms.take (k + 1) = ms.take k ++ [d] := by rw [List.take_add_one, hv]; rfl
            rw [tk, List.mem_append, List.mem_singleton] at h
            rcases h with h | ⟨h1, h | ⟨h2, h | h⟩⟩
            · exact .inl (.inl h)
            · exact .inl (.inr ⟨h1, .inl h⟩)
            · exact .inl (.inr ⟨h1, .inr ⟨h2, h⟩⟩)
            · refine .inr (Prod.ext ?_ (Prod.ext h2 h))
              show w.1 = f
              omega
          show gName 10 (V.ref So) [some (.int c), some (.ref L), some (.ref D), some (.int f), some (.int l), some (.int d), y6, y7, some (.ref R), some (.ref Mt), y10] H8 _
          refine ⟨_, rfl, Nat.zero_le _, fun T1 hT1 => ?_⟩
          have t1 := Same.new hT1 (o := .lst [])
          refine ⟨intsD so, .list [], .lst (SqL.of (t1 _ _ eS)) (dp_ints _), .lst (SqL.of upd_same) .nil, shaped_ints _, shaped_nil, so.isEmpty, congrArg V.bl (eqv_ints_nil so), ?_⟩
          have fin : ∀ H9, Same H8 H9 → ¬ (Late c F (f, l, d) ∧ metL c F (f, l, d) ≠ []) → ∃ (xs : List V) (S : List (List Int)) (z5 z6 z7 z8 z9 z10 : Option V), [some (V.int c), some (.ref L), some (.ref D), some (.int f), some (.int l), some (.int d), y6, y7, some (.ref R), some (.ref Mt), some (.ref So)] = [some (.int c), some (.ref L), some (.ref D), some (.int f), some (.int l), z5, z6, z7, z8, z9, z10] ∧ Same H H9 ∧ H9 M = some (.lst (ms.map V.int)) ∧ H9 D = some (.lst xs) ∧ Paired (IntsN D H9) xs S ∧ S.length ≤ 36 * i + 6 * j + (k + 1) ∧ (∀ A ∈ S, ∃ w, Late c F w ∧ A = metL c F w) ∧ ∀ w, rng w → Late c F w → metL c F w ≠ [] → (w.1 < i ∨ w.1 = i ∧ (w.2.1 < f + j ∨ w.2.1 = l ∧ w.2.2 ∈ ms.take (k + 1))) → metL c F w ∈ S := fun H9 s9 no => by
            refine ⟨xs, S, _, _, _, _, _, _, rfl, s5.trans (s58.trans s9), s9 _ _ eM8, s9 _ _ eD8, IntsN.mono s9 hX8, by omega, p1, fun w a b e h => ?_⟩
            rcases step w h with h | rfl
            · exact p2 w a b e h
            · exact absurd ⟨b, e⟩ no
          cases so with
          | cons o os =>
            refine iteF ?_
            refine iteF ?_
            exact fin _ t1 fun h => by have := lateI.mpr h.1; cases this
          | nil =>
            have lt := lateI.mp rfl
            refine iteT ?_
            refine ⟨_, rfl, Nat.zero_le _, fun T2 hT2 => ?_⟩
            have t2 := t1.trans (Same.new hT2 (o := .lst []))
            refine ⟨intsD (metL c F (f, l, d)), .list [], .lst (SqL.of (t2 _ _ eT8)) (dp_ints _), .lst (SqL.of upd_same) .nil, shaped_ints _, shaped_nil, !(metL c F (f, l, d)).isEmpty, congrArg V.bl (by rw [eqv_ints_nil]), ?_⟩
            obtain ⟨mt, hmt⟩ : ∃ mt, mt = metL c F (f, l, d) := ⟨_, rfl⟩
            rw [← hmt] at eT8
            rw [← hmt]
            cases mt with
            | nil =>
              refine iteF ?_
              refine iteF ?_
              exact fin _ t2 fun h => h.2 hmt.symm
            | cons o os =>
              refine iteT ?_
              refine ⟨_, rfl, _, _, rfl, rfl, true, congrArg V.bl (decide_eq_true d0), iteT ?_⟩
              have eD9 := t2 _ _ eD8
              have lx := paired_len hX8
              refine ⟨_, rfl, .inl ⟨rfl, _, SqL.of eD9⟩, _, rfl, D, xs, _, rfl, rfl, eD9, smallL (by omega), ?_⟩
              refine ⟨xs ++ [.ref Mt], S ++ [o :: os], _, _, _, _, _, _, rfl, same_upd (s5.trans (s58.trans t2)) hD, ?_, upd_same, ?_, by rw [List.length_append]; simp; omega, fun A hA => ?_, fun w a b e h => ?_⟩
              · rw [upd_ne nMD]; exact t2 _ _ eM8
              · refine paired_snoc (IntsN.upd (IntsN.mono t2 hX8)) ⟨Mt, rfl, nMtD, ?_⟩
                rw [upd_ne nMtD]; exact t2 _ _ eT8
              · rcases List.mem_append.mp hA with h | h
                · exact p1 A h
                · rw [List.mem_singleton.mp h]; exact ⟨_, lt, hmt⟩
              · rcases step w h with h | rfl
                · exact List.mem_append_left _ (p2 w a b e h)
                · exact List.mem_append_right _ (List.mem_singleton.mpr hmt.symm)
        · rintro σ H5 ⟨xs, S, y5, y6, y7, y8, y9, y10, rfl, s5, eM, eD, hX, lS, p1, p2⟩
          rw [List.length_map] at lS p2
          rw [List.take_of_length_le (Nat.le_refl _)] at p2
          refine ⟨xs, S, _, _, _, _, _, _, _, rfl, s5, eD, hX, by omega, p1, fun w a b e h => p2 w a b e ?_⟩
          rcases h with h | ⟨h1, h2⟩
          · exact .inl h
          · by_cases k : w.2.1 < f + j
            · exact .inr ⟨h1, .inl k⟩
            · refine .inr ⟨h1, .inr ⟨by push_cast at h2; omega, ?_⟩⟩
              rw [hrng] at a
              obtain ⟨s, hs⟩ := a
              have q0 := Int.emod_nonneg s (show c ≠ 0 by omega)
              have q1 := Int.emod_lt_of_pos s (show 0 < c by omega)
              obtain ⟨n', hn'⟩ := Int.eq_ofNat_of_zero_le q0
              refine (mem _).mpr (List.mem_map.mpr ⟨n', List.mem_range.mpr (by omega), ?_⟩)
              have em := Int.emod_add_mul_ediv s c
              rw [Int.mul_comm] at em
              have := dn_per mo (s % c) (s / c)
              rw [em] at this
              rw [hs, this, hn']
      · rintro σ H2 ⟨xs, S, y4, y5, y6, y7, y8, y9, y10, rfl, s2, eD, hX, lS, p1, p2⟩
        refine ⟨xs, S, _, _, _, _, _, _, _, _, rfl, s2, eD, hX, by omega, p1, fun w a b d e => p2 w a b d ?_⟩
        have := b.1.2.2.2.1
        push_cast at e
        omega
    · rintro σ H1 ⟨xs, S, y3, y4, y5, y6, y7, y8, y9, y10, rfl, s1, eD, hX, lS, p1, p2⟩
      refine ⟨_, rfl, q D H1 S s1 ⟨xs, eD, L2.Paired.mapP hX fun _ _ ⟨a, e, _, h⟩ => ⟨a, e, h⟩⟩ ⟨p1, fun w a b d => p2 w (by rw [hrng]; exact a) b d ?_⟩ (by omega)⟩
      have := b.1.2.1
      omega
end
end Gr

set_option Elab.async false
set_option linter.all false
set_option pp.deepTerms false
set_option pp.maxSteps 3000
set_option maxRecDepth 100000
set_option maxHeartbeats 8000000
set_option exponentiation.threshold 3000
namespace Gr
open PySem PySem.Spec PyProof.Rows L2
open Pm (Rn)
open Few
def spFewN (n : Nat) : Sp := fun vs H Q _ => ∃ (Ls' Ll : Addr) (S : List (List Int)) (L : List Int), vs = [.ref Ls', .ref Ll] ∧ SetsAt H Ls' S ∧ H Ll = some (.lst (L.map V.int)) ∧ L.length ≤ n ∧ n ≤ 10 ∧ S.length ≤ 216 ∧ (∀ A ∈ S, A.length ≤ 6) ∧ (∀ x ∈ L, ∃ A ∈ S, x ∈ A) ∧ ∀ H' v, Same H H' → MinC S L v → Q (.int (v : Nat)) H'
theorem inV_int {x : Int} {A : List Int} : inV (.int x) (A.map V.int) = decide (x ∈ A) := by
  unfold inV
  induction A with
  | nil => rfl
  | cons a A ih =>
    rw [List.map_cons, List.any_cons, ih]
    by_cases e : x = a
    · subst e; simp [eqV]
    · have : eqV (.int x) (.int a) = false := by simp [eqV]; exact e
      have t : eqV (.int a) (.int x) = false := by simp [eqV]; exact fun h => e h.symm
      simp [this, t, e]
theorem flat_ints (A : List Int) : (A.map V.int).all flatV = true := by
  rw [List.all_map]; exact List.all_eq_true.mpr fun _ _ => rfl
section
variable {P : Program} {w : World} {K : PySem.W.Frag} {mg : Str → Option Value} {base : Heap} {tC : Tok}
theorem ok_fewest1 {f : Addr} {fd : FuncData} (B : Blt mg tC) (Dl_fewest : Def K mg "_law_fewest" s_l_fewest ["_law_sets", "_law_left"] f fd) (n k : Nat) (Gl_fewest : FnOk P w K mg base CX0 (k + 1) f fd ["_law_sets", "_law_left"] (spFewN n)) : FnOk P w K mg base CX0 (k + 2) f fd ["_law_sets", "_law_left"] (spFewN (n + 1)) := by
  refine Dl_fewest.F.ok scl_fewest (fun vs H Q E h => ?_) (fun cdv A outer s H vs Q E hr h => ⟨_, (pss_cons (ps_if (pt_cmpR (op_eqD hr.units) (pv 1) (pe_lst pa_nil) (nomark _))
   (pss_one (ps_ret pe_int))
   pss_nil)
  (pss_cons (ps_set (i := 2) scl_fewest.nd rfl (Or.inl rfl) (pe_callB call_len_seq (by rfl) B.len PySem.boot_len (pa_cons (pv 1) pa_nil)))
  (pss_cons (ps_for PassesOwn.never rfl (pi_list (pv 0)) (pg_name (i := 3) scl_fewest.nd rfl (Or.inr rfl))
   (pss_one (ps_if (pt_cmpR op_in_seq (pe_ix ix_list (pv 1) pe_int (fun _ _ => rfl)) (pv 3) (by rfl))
   (pss_one (ps_set (i := 2) scl_fewest.nd rfl (Or.inl rfl) (pe_callB (call_min2 rfl) (by rfl) B.n_min (by decide +kernel) (pa_cons (pv 2) (pa_cons (pe_op op_add pe_int (pe_call Gl_fewest (hr.mono (by omega)) (by rfl) Dl_fewest.g Dl_fewest.F.kp Dl_fewest.b .nil pass0 (pa_cons (pv 0) (pa_cons (pe_lc (own := [("_law_item", 4)]) (g := (gName 4))  rfl scl_fewest.nd (pi_list (pv 1)) (blkOk_by (N := ["_law_sets", "_law_left", "_law_found", "_law_one", "_law_item"]) (sc := defScope s_l_fewest) (by decide +kernel)) (fun _ _ _ _ _ => (pg_name (i := 4) scl_fewest.nd rfl (Or.inl rfl))) (fun _ _ _ _ _ => pts_one (pt_cmpR (r := rIn K true) (by exact op_notIn_seq) (pv 4) (pv 3) (by rfl))) (fun _ _ _ _ _ => (pv 4))) pa_nil)))) pa_nil)))))
   pss_nil)))
  (pss_one (ps_ret (pv 2)))))), ?_⟩)
  · obtain ⟨Ls', Ll, S, L, rfl, _⟩ := h; rfl
  · obtain ⟨Ls', Ll, S, L, rfl, ⟨xs, hS, hX⟩, hL, len, n10, s216, a6, cov, q⟩ := h
    refine ⟨_, rfl, Nat.zero_le _, fun T1 hT1 => ?_⟩
    have t1 := Same.new hT1 (o := .lst [])
    have hL1 := t1 _ _ hL
    have hS1 := t1 _ _ hS
    have hX1 : Paired (IntsAt (upd H T1 (.lst []))) xs S := L2.Paired.mapP hX fun _ _ ⟨a, e, h⟩ => ⟨a, e, t1 _ _ h⟩
    refine ⟨intsD L, .list [], .lst (SqL.of hL1) (dp_ints _), .lst (SqL.of upd_same) .nil, shaped_ints _, shaped_nil, L.isEmpty, congrArg V.bl (eqv_ints_nil L), ?_⟩
    generalize upd H T1 (.lst []) = H1 at t1 hL1 hS1 hX1 ⊢
    cases L with
    | nil => exact iteT (q H1 0 t1 (MinC.nil S))
    | cons x L0 =>
    refine iteF ?_
    refine ⟨_, rfl, Ll, _, rfl, .inl (SqL.of hL1), ?_⟩
    rw [List.length_map]
    have lx := paired_len hX1
    refine ⟨_, rfl, Ls', rfl, ⟨_, SqL.of hS1⟩, ?_⟩
    refine for_list (xs := xs) (fun i σ H' => ∃ (v : Nat) (y3 y4 : Option V), σ = [some (.ref Ls'), some (.ref Ll), some (.int (v : Int)), y3, y4] ∧ Same H1 H' ∧ Cvr S (x :: L0) v ∧ ∀ A ∈ S.take i, x ∈ A → ∀ m, Cvr S ((x :: L0).filter fun y => decide (y ∉ A)) m → v ≤ m + 1)
      ⟨_, _, _, rfl, Same.refl _, cvr_all cov, fun A h => by rw [List.take_zero] at h; cases h⟩ (fun i σ H' _ ⟨_, _, _, _, s, _⟩ => SqL.of (s _ _ hS1)) ?_ ?_
    · rintro i z σ H2 hz ⟨v, y3, y4, rfl, s2, cv, low⟩
      obtain ⟨A, hA, a, rfl, ha⟩ := paired_at hX1 hz
      have mA : A ∈ S := List.mem_of_getElem? hA
      have lA := a6 A mA
      have ha2 := s2 _ _ ha
      have hL2 := s2 _ _ hL1
      have tk : S.take (i + 1) = S.take i ++ [A] := by rw [List.take_add_one, hA]; rfl
      show tIfS _ _ _ _ [some (.ref Ls'), some (.ref Ll), some (.int (v : Int)), some (.ref a), y4] H2
      refine ⟨_, rfl, Ll, _, _, _, rfl, rfl, SqL.of hL2, atI_nat (j := 0) rfl, _, rfl, a, _, rfl, .inl (SqL.of ha2), rfl, flat_ints A, decide (x ∈ A), congrArg V.bl inV_int, ?_⟩
      by_cases hx : x ∈ A
      · rw [decide_eq_true hx]
        refine iteT ?_
        refine ⟨_, rfl, _, rfl, _, rfl, Ll, rfl, ⟨_, SqL.of hL2⟩, fun Lf hLf => ?_⟩
        refine lc_list (xs := (x :: L0).map V.int) (fun i H' => Same H2 H' ∧ H' Lf = some (.lst ((((x :: L0).take i).filter fun y => decide (y ∉ A)).map V.int))) ⟨Same.new hLf, upd_same⟩ (fun i H' _ ⟨s, _⟩ => SqL.of (s _ _ hL2)) ?_ ?_
        · rintro m u H3 hu ⟨s3, eF⟩
          rw [List.getElem?_map] at hu
          cases hv : (x :: L0)[m]? with
          | none => rw [hv] at hu; cases hu
          | some y =>
            rw [hv] at hu
            obtain rfl := Option.some.inj hu
            have hm := (List.getElem?_eq_some_iff.mp hv).1
            refine ⟨rfl, ?_⟩
            refine ⟨_, rfl, _, rfl, a, _, rfl, .inl (SqL.of (s3 _ _ ha2)), rfl, flat_ints A, !decide (y ∈ A), congrArg V.bl (by rw [if_pos rfl, inV_int]), ?_⟩
            have e1 : ((x :: L0).take (m + 1)).filter (fun y => decide (y ∉ A)) = ((x :: L0).take m).filter (fun y => decide (y ∉ A)) ++ [y].filter fun y => decide (y ∉ A) := by rw [List.take_add_one, hv, List.filter_append]; rfl
            by_cases hy : y ∈ A
            · rw [decide_eq_true hy]
              refine iteF ?_
              refine ⟨s3, ?_⟩
              rw [eF, e1]
              simp [hy]
            · rw [decide_eq_false hy]
              refine iteT ?_
              refine ⟨_, rfl, _, eF, ?_, same_upd s3 hLf, ?_⟩
              · rw [List.length_map]
                refine smallL (Nat.le_trans (List.length_filter_le _ _) ?_)
                rw [List.length_take]
                simp only [List.length_cons] at len hm ⊢
                omega
              · rw [upd_same, e1, List.map_append]
                simp [hy]
        rintro H3 ⟨s3, eF⟩
        rw [List.length_map, List.take_of_length_le (Nat.le_refl _)] at eF
        have s13 := s2.trans s3
        have ll : ((x :: L0).filter fun y => decide (y ∉ A)).length ≤ n := by
          rw [List.filter_cons_of_neg (by simp [hx])]
          have := List.length_filter_le (fun y => decide (y ∉ A)) L0
          simp only [List.length_cons] at len
          omega
        refine ⟨Ls', Lf, S, _, rfl, ⟨xs, s13 _ _ hS1, L2.Paired.mapP hX1 fun _ _ ⟨a, e, h⟩ => ⟨a, e, s13 _ _ h⟩⟩, eF, ll, by omega, s216, a6, fun y hy => cov y (List.mem_filter.mp hy).1, fun H4 v' s4 mc => ⟨_, _, rfl, rfl, _, _, rfl, ?_⟩⟩
        have c1 := cvr_cons mA mc.1
        by_cases lt : v' + 1 < v
        · refine ⟨v' + 1, some (.ref a), y4, ?_, s13.trans s4, c1, fun A' hA' hx' m hm => ?_⟩
          · show [some (V.ref Ls'), some (V.ref Ll), some (V.int (if (1 + (v' : Int)) < (v : Int) then (1 + (v' : Int)) else (v : Int))), some (V.ref a), y4] = _
            rw [if_pos (by omega), show (1 : Int) + (v' : Int) = ((v' + 1 : Nat) : Int) by omega]
          · rw [tk] at hA'
            rcases List.mem_append.mp hA' with h | h
            · have := low A' h hx' m hm; omega
            · rw [List.mem_singleton.mp h] at hm
              have := mc.2 m hm; omega
        · refine ⟨v, some (.ref a), y4, ?_, s13.trans s4, cv, fun A' hA' hx' m hm => ?_⟩
          · show [some (V.ref Ls'), some (V.ref Ll), some (V.int (if (1 + (v' : Int)) < (v : Int) then (1 + (v' : Int)) else (v : Int))), some (V.ref a), y4] = _
            rw [if_neg (by omega)]
          · rw [tk] at hA'
            rcases List.mem_append.mp hA' with h | h
            · exact low A' h hx' m hm
            · rw [List.mem_singleton.mp h] at hm
              have := mc.2 m hm; omega
      · rw [decide_eq_false hx]
        refine iteF ?_
        refine ⟨v, some (.ref a), y4, rfl, s2, cv, fun A' hA' hx' m hm => ?_⟩
        rw [tk] at hA'
        rcases List.mem_append.mp hA' with h | h
        · exact low A' h hx' m hm
        · rw [List.mem_singleton.mp h] at hx'
          exact absurd hx' hx
    · rintro σ H2 ⟨v, y3, y4, rfl, s2, cv, low⟩
      refine ⟨_, rfl, q H2 v (t1.trans s2) ⟨cv, fun m hm => ?_⟩⟩
      obtain ⟨A, hA, xA, k, rfl, hk⟩ := cvr_less hm
      exact low A (by rw [List.take_of_length_le (by omega)]; exact hA) xA k hk
def spNo : Sp := fun _ _ _ _ => False
theorem ok_fewestNo {f : Addr} {fd : FuncData} (B : Blt mg tC) (Dl_fewest : Def K mg "_law_fewest" s_l_fewest ["_law_sets", "_law_left"] f fd) : FnOk P w K mg base CX0 1 f fd ["_law_sets", "_law_left"] spNo :=
  Dl_fewest.F.ok scl_fewest (fun vs H Q E h => h.elim) (fun cdv A outer s H vs Q E hr h => h.elim)
theorem ok_fewest0 {f : Addr} {fd : FuncData} (B : Blt mg tC) (Dl_fewest : Def K mg "_law_fewest" s_l_fewest ["_law_sets", "_law_left"] f fd)   : FnOk P w K mg base CX0 2 f fd ["_law_sets", "_law_left"] (spFewN 0) := by
  have Gl_fewest := ok_fewestNo (P := P) (w := w) (base := base) B Dl_fewest
  refine Dl_fewest.F.ok scl_fewest (fun vs H Q E h => ?_) (fun cdv A outer s H vs Q E hr h => ⟨_, (pss_cons (ps_if (pt_cmpR (op_eqD hr.units) (pv 1) (pe_lst pa_nil) (nomark _))
   (pss_one (ps_ret pe_int))
   pss_nil)
  (pss_cons (ps_set (i := 2) scl_fewest.nd rfl (Or.inl rfl) (pe_callB call_len_seq (by rfl) B.len PySem.boot_len (pa_cons (pv 1) pa_nil)))
  (pss_cons (ps_for PassesOwn.never rfl (pi_list (pv 0)) (pg_name (i := 3) scl_fewest.nd rfl (Or.inr rfl))
   (pss_one (ps_if (pt_cmpR op_in_seq (pe_ix ix_list (pv 1) pe_int (fun _ _ => rfl)) (pv 3) (by rfl))
   (pss_one (ps_set (i := 2) scl_fewest.nd rfl (Or.inl rfl) (pe_callB (call_min2 rfl) (by rfl) B.n_min (by decide +kernel) (pa_cons (pv 2) (pa_cons (pe_op op_add pe_int (pe_call Gl_fewest (hr.mono (by omega)) (by rfl) Dl_fewest.g Dl_fewest.F.kp Dl_fewest.b .nil pass0 (pa_cons (pv 0) (pa_cons (pe_lc (own := [("_law_item", 4)]) (g := (gName 4))  rfl scl_fewest.nd (pi_list (pv 1)) (blkOk_by (N := ["_law_sets", "_law_left", "_law_found", "_law_one", "_law_item"]) (sc := defScope s_l_fewest) (by decide +kernel)) (fun _ _ _ _ _ => (pg_name (i := 4) scl_fewest.nd rfl (Or.inl rfl))) (fun _ _ _ _ _ => pts_one (pt_cmpR (r := rIn K true) (by exact op_notIn_seq) (pv 4) (pv 3) (by rfl))) (fun _ _ _ _ _ => (pv 4))) pa_nil)))) pa_nil)))))
   pss_nil)))
  (pss_one (ps_ret (pv 2)))))), ?_⟩)
  · obtain ⟨Ls', Ll, S, L, rfl, _⟩ := h; rfl
  · obtain ⟨Ls', Ll, S, L, rfl, ⟨xs, hS, hX⟩, hL, len, n10, s216, a6, cov, q⟩ := h
    obtain rfl : L = [] := List.eq_nil_of_length_eq_zero (by omega)
    refine ⟨_, rfl, Nat.zero_le _, fun T1 hT1 => ?_⟩
    have t1 := Same.new hT1 (o := .lst [])
    exact ⟨intsD [], .list [], .lst (SqL.of (t1 _ _ hL)) (dp_ints _), .lst (SqL.of upd_same) .nil, shaped_ints _, shaped_nil, ([] : List Int).isEmpty, congrArg V.bl (eqv_ints_nil []), iteT (q _ 0 t1 (MinC.nil S))⟩
theorem ok_fewestN {f : Addr} {fd : FuncData} (B : Blt mg tC) (Dl_fewest : Def K mg "_law_fewest" s_l_fewest ["_law_sets", "_law_left"] f fd) : ∀ n : Nat, FnOk P w K mg base CX0 (n + 2) f fd ["_law_sets", "_law_left"] (spFewN n)
  | 0 => ok_fewest0 B Dl_fewest
  | n + 1 => ok_fewest1 B Dl_fewest n (n + 1) (ok_fewestN B Dl_fewest n)
end
end Gr

set_option Elab.async false
set_option linter.all false
set_option pp.deepTerms false
set_option pp.maxSteps 3000
set_option maxRecDepth 100000
set_option maxHeartbeats 8000000
set_option exponentiation.threshold 3000
namespace Gr
open PySem PySem.Spec PyProof.Rows L2
open Pm (Rn)
open Few
def Sub (A C : List Int) : Prop := ∀ x ∈ A, x ∈ C
def spWith : Sp := fun vs H Q _ => ∃ (a L : Addr) (A : List Int) (S : List (List Int)), vs = [.ref a, .ref L] ∧ H a = some (.lst (A.map V.int)) ∧ SetsAt H L S ∧ S.length ≤ 216 ∧ A.length ≤ 6 ∧ (∀ C ∈ S, C.length ≤ 6) ∧ ∀ H' b, Same H H' → (b = true ↔ ∃ C ∈ S, C ≠ A ∧ Sub A C) → Q (.bl b) H'
theorem eqv_ints : ∀ A C : List Int, PyData.eqv (intsD A) (intsD C) = decide (A = C)
  | [], [] => by simp [intsD, PyData.eqv, PyData.eqvAll]
  | [], c :: C => by simp [intsD, PyData.eqv, PyData.eqvAll]
  | a :: A, [] => by simp [intsD, PyData.eqv, PyData.eqvAll]
  | a :: A, c :: C => by
    have ih := eqv_ints A C
    simp only [intsD, PyData.eqv] at ih
    simp only [intsD, List.map_cons, PyData.eqv, PyData.eqvAll, ih]
    by_cases h : a = c <;> by_cases h2 : A = C <;> simp [h, h2]
def setsD (S : List (List Int)) : PyData := .list (S.map intsD)
theorem dp_sets {K : PySem.W.Frag} {H : Hp} {xs : List V} {S : List (List Int)} (h : Paired (IntsAt H) xs S) : DpAll K H xs (S.map intsD) := by
  induction h with
  | nil => exact .nil
  | cons r t ih =>
    obtain ⟨a, rfl, h⟩ := r
    exact .cons (.lst (SqL.of h) (dp_ints _)) ih
theorem shaped_sets (S : List (List Int)) : SeqAt.shaped (setsD S) = true := by
  have lay1 : ∀ ns : List Int, PyData.canLayAll0 (ns.map PyData.int) = true := by
    intro ns
    induction ns with
    | nil => simp [PyData.canLayAll0]
    | cons n ns ih => simp [PyData.canLayAll0, PyData.canLay0, ih]
  have dep1 : ∀ ns : List Int, PyData.depthAll (ns.map PyData.int) ≤ 3 := by
    intro ns
    induction ns with
    | nil => simp [PyData.depthAll]
    | cons n ns ih => simp only [List.map_cons, PyData.depthAll, PyData.depth]; omega
  have lay : ∀ S : List (List Int), PyData.canLayAll0 (S.map intsD) = true := by
    intro S
    induction S with
    | nil => simp [PyData.canLayAll0]
    | cons A S ih => simp [PyData.canLayAll0, PyData.canLay0, intsD, lay1 A, ih]
  have dep : ∀ S : List (List Int), PyData.depthAll (S.map intsD) ≤ 8 := by
    intro S
    induction S with
    | nil => simp [PyData.depthAll]
    | cons A S ih =>
      have := dep1 A
      simp only [List.map_cons, PyData.depthAll, PyData.depth, intsD]
      omega
  have h := dep S
  unfold SeqAt.shaped setsD
  rw [Bool.and_eq_true]
  refine ⟨by simpa only [PyData.canLay0] using lay S, decide_eq_true ?_⟩
  simp only [PyData.depth]
  omega
theorem eqv_sets_nil : ∀ S : List (List Int), PyData.eqv (setsD S) (.list []) = S.isEmpty
  | [] => by decide +kernel
  | A :: S => by simp [setsD, PyData.eqv, PyData.eqvAll]
section
open Classical
noncomputable def above (A : List Int) (S : List (List Int)) : List (List Int) := S.filter fun C => decide (C ≠ A ∧ Sub A C)
theorem above_add {A C : List Int} {S : List (List Int)} {i : Nat} (h : S[i]? = some C) : above A (S.take (i + 1)) = if C ≠ A ∧ Sub A C then above A (S.take i) ++ [C] else above A (S.take i) := by
  unfold above
  rw [List.take_add_one, h, List.filter_append]
  by_cases k : C ≠ A ∧ Sub A C
  · rw [if_pos k]; simp [k]
  · rw [if_neg k]; simp [k]
theorem above_mem {A : List Int} {S : List (List Int)} : (!(above A S).isEmpty) = true ↔ ∃ C ∈ S, C ≠ A ∧ Sub A C := by
  unfold above
  cases h : S.filter fun C => decide (C ≠ A ∧ Sub A C) with
  | nil =>
    rw [List.filter_eq_nil_iff] at h
    constructor
    · intro z; cases z
    · rintro ⟨C, hC, k⟩; exact absurd (decide_eq_true k) (h C hC)
  | cons C t =>
    have m : C ∈ S.filter fun C => decide (C ≠ A ∧ Sub A C) := by rw [h]; simp
    obtain ⟨m1, m2⟩ := List.mem_filter.mp m
    exact ⟨fun _ => ⟨C, m1, of_decide_eq_true m2⟩, fun _ => rfl⟩
end
section
variable {P : Program} {w : World} {K : PySem.W.Frag} {mg : Str → Option Value} {base : Heap} {tC : Tok}
theorem ok_with {f : Addr} {fd : FuncData} (B : Blt mg tC) (Dl_is_within : Def K mg "_law_is_within" s_l_is_within ["_law_one", "_law_sets"] f fd) : FnOk P w K mg base CX0 1 f fd ["_law_one", "_law_sets"] spWith := by
  refine Dl_is_within.F.ok scl_is_within (fun vs H Q E h => ?_) (fun cdv A outer s H vs Q E hr h => ⟨_, (pss_one (ps_ret (pe_cmpR (op_neD hr.units) (pe_lc (own := [("_law_other", 2)]) (g := (gName 2))  rfl scl_is_within.nd (pi_list (pv 1)) (blkOk_by (N := ["_law_one", "_law_sets", "_law_other", "_law_item"]) (sc := defScope s_l_is_within) (by decide +kernel)) (fun _ _ _ _ _ => (pg_name (i := 2) scl_is_within.nd rfl (Or.inr rfl))) (fun _ _ _ _ _ => pts_one (PW.pt (pw_and (pt_cmpR (r := rNeD K) (by exact op_neD hr.units) (pv 2) (pv 0) (nomark _)) (pw_and1 (pt_cmpR (r := rEqD K) (by exact op_eqD hr.units) (by exact (pe_lc (wi := iList K _) (own := [("_law_item", 3)]) (g := (gName 3))  rfl scl_is_within.nd (by exact (pi_list (pv 0))) (blkOk_by (by rfl)) (fun _ _ _ _ _ => (pg_name (i := 3) scl_is_within.nd rfl (Or.inl rfl))) (fun _ _ _ _ _ => pts_one (pt_cmpR (r := rIn K true) (by exact op_notIn_seq) (pv 3) (pv 2) (by rfl))) (fun _ _ _ _ _ => (pv 3)))) (pe_lst pa_nil) (nomark _)))))) (fun _ _ _ _ _ => (pv 2))) (pe_lst pa_nil) (nomark _)))), ?_⟩)
  · obtain ⟨a, L, A, S, rfl, _⟩ := h; rfl
  · obtain ⟨a, L, A, S, rfl, ha, ⟨xs, hS, hX⟩, s216, a6, c6, q⟩ := h
    have lx := paired_len hX
    refine ⟨_, rfl, L, rfl, ⟨_, SqL.of hS⟩, fun D hD => ?_⟩
    refine lc_list (xs := xs) (fun i H' => Same H H' ∧ ∃ ac, H' D = some (.lst ac) ∧ ac.length ≤ i ∧ Paired (IntsAt H) ac (above A (S.take i))) ⟨Same.new hD, [], upd_same, Nat.le_refl _, .nil⟩ (fun i H' _ ⟨s, _⟩ => SqL.of (s _ _ hS)) ?_ ?_
    · rintro i z H1 hz ⟨s1, ac, eD, la, hA⟩
      obtain ⟨C, hC, cc, rfl, hcc⟩ := paired_at hX hz
      have hi := (List.getElem?_eq_some_iff.mp hz).1
      have ha1 := s1 _ _ ha
      have hc1 := s1 _ _ hcc
      have ad := above_add (A := A) hC
      refine ⟨rfl, ?_⟩
      refine ⟨_, rfl, _, rfl, intsD C, intsD A, .lst (SqL.of hc1) (dp_ints C), .lst (SqL.of ha1) (dp_ints A), shaped_ints _, shaped_ints _, !decide (C = A), congrArg V.bl (by rw [eqv_ints]), ?_⟩
      by_cases e : C = A
      · rw [decide_eq_true e]
        refine iteF ?_
        refine iteF ?_
        rw [if_neg (fun h => h.1 e)] at ad
        exact ⟨s1, ac, eD, by omega, by rw [ad]; exact hA⟩
      · rw [decide_eq_false e]
        refine iteT ?_
        refine ⟨_, rfl, a, rfl, ⟨_, SqL.of ha1⟩, fun F hF => ?_⟩
        refine lc_list (xs := A.map V.int) (fun i H' => Same H1 H' ∧ H' F = some (.lst (((A.take i).filter fun y => decide (y ∉ C)).map V.int))) ⟨Same.new hF, upd_same⟩ (fun i H' _ ⟨s, _⟩ => SqL.of (s _ _ ha1)) ?_ ?_
        · rintro m u H3 hu ⟨s3, eF⟩
          rw [List.getElem?_map] at hu
          cases hv : A[m]? with
          | none => rw [hv] at hu; cases hu
          | some y =>
            rw [hv] at hu
            obtain rfl := Option.some.inj hu
            refine ⟨rfl, ?_⟩
            refine ⟨_, rfl, _, rfl, cc, _, rfl, .inl (SqL.of (s3 _ _ hc1)), rfl, flat_ints C, !decide (y ∈ C), congrArg V.bl (by rw [if_pos rfl, inV_int]), ?_⟩
            have e1 : (A.take (m + 1)).filter (fun y => decide (y ∉ C)) = (A.take m).filter (fun y => decide (y ∉ C)) ++ [y].filter fun y => decide (y ∉ C) := by rw [List.take_add_one, hv, List.filter_append]; rfl
            by_cases hy : y ∈ C
            · rw [decide_eq_true hy]
              refine iteF ?_
              refine ⟨s3, ?_⟩
              rw [eF, e1]
              simp [hy]
            · rw [decide_eq_false hy]
              refine iteT ?_
              refine ⟨_, rfl, _, eF, ?_, same_upd s3 hF, ?_⟩
              · rw [List.length_map]
                refine smallL (Nat.le_trans (List.length_filter_le _ _) ?_)
                rw [List.length_take]
                omega
              · rw [upd_same, e1, List.map_append]
                simp [hy]
        rintro H3 ⟨s3, eF⟩
        rw [List.length_map, List.take_of_length_le (Nat.le_refl _)] at eF
        refine ⟨Nat.zero_le _, fun T hT => ?_⟩
        have t4 := Same.new hT (o := .lst [])
        have s14 := s3.trans t4
        refine ⟨intsD (A.filter fun y => decide (y ∉ C)), .list [], .lst (SqL.of (t4 _ _ eF)) (dp_ints _), .lst (SqL.of upd_same) .nil, shaped_ints _, shaped_nil, (A.filter fun y => decide (y ∉ C)).isEmpty, congrArg V.bl (eqv_ints_nil _), ?_⟩
        by_cases sb : Sub A C
        · have : A.filter (fun y => decide (y ∉ C)) = [] := by
            rw [List.filter_eq_nil_iff]
            intro y hy
            simp [sb y hy]
          rw [this]
          refine iteT ?_
          refine ⟨_, rfl, ac, s14 _ _ eD, smallL (by omega), same_upd (s1.trans s14) hD, ac ++ [.ref cc], upd_same, by simp; omega, ?_⟩
          rw [ad, if_pos ⟨e, sb⟩]
          exact paired_snoc hA ⟨cc, rfl, hcc⟩
        · have : A.filter (fun y => decide (y ∉ C)) ≠ [] := fun h => sb fun y hy => by
            have := List.filter_eq_nil_iff.mp h y hy
            simpa using this
          obtain ⟨y, t, ey⟩ := List.exists_cons_of_ne_nil this
          rw [ey]
          refine iteF ?_
          rw [if_neg (fun h => sb h.2)] at ad
          exact ⟨s1.trans s14, ac, s14 _ _ eD, by omega, by rw [ad]; exact hA⟩
    · rintro H1 ⟨s1, ac, eD, la, hA⟩
      rw [List.take_of_length_le (by omega)] at hA
      refine ⟨Nat.zero_le _, fun T hT => ?_⟩
      have t2 := Same.new hT (o := .lst [])
      refine ⟨setsD (above A S), .list [], .lst (SqL.of (t2 _ _ eD)) (dp_sets (L2.Paired.mapP hA fun _ _ ⟨a, e, h⟩ => ⟨a, e, t2 _ _ (s1 _ _ h)⟩)), .lst (SqL.of upd_same) .nil, shaped_sets _, shaped_nil, ?_⟩
      rw [eqv_sets_nil]
      exact q _ _ (s1.trans t2) above_mem
end
end Gr

set_option Elab.async false
set_option linter.all false
set_option pp.deepTerms false
set_option pp.maxSteps 3000
set_option maxRecDepth 100000
set_option maxHeartbeats 8000000
set_option exponentiation.threshold 3000
namespace Gr
open PySem PySem.Spec PyProof.Rows L2
open Pm (Rn)
open Few
def spGreat : Sp := fun vs H Q _ => ∃ (L : Addr) (S : List (List Int)), vs = [.ref L] ∧ SetsAt H L S ∧ S.length ≤ 216 ∧ (∀ C ∈ S, C.length ≤ 6 ∧ C.Pairwise (· < ·)) ∧ ∀ Lr H' R, Same H H' → SetsAt H' Lr R → (∀ A ∈ R, A ∈ S) → (∀ A ∈ S, ∃ C ∈ R, Sub A C) → R.length ≤ 216 → Q (.ref Lr) H'
theorem un65 {k : Nat} {A : Around} (r : Room k A) : A.units + 65 < cLine := by have := r.un; omega
theorem asc_eq : ∀ {A B : List Int}, A.Pairwise (· < ·) → B.Pairwise (· < ·) → (∀ x, x ∈ A ↔ x ∈ B) → A = B
  | [], [], _, _, _ => rfl
  | [], b :: B, _, _, h => by have := (h b).mpr (by simp); cases this
  | a :: A, [], _, _, h => by have := (h a).mp (by simp); cases this
  | a :: A, b :: B, pA, pB, h => by
    have qA := List.pairwise_cons.mp pA
    have qB := List.pairwise_cons.mp pB
    have e : a = b := by
      rcases List.mem_cons.mp ((h a).mp (by simp)) with k | k
      · exact k
      · rcases List.mem_cons.mp ((h b).mpr (by simp)) with r | r
        · exact r.symm
        · have := qA.1 b r
          have := qB.1 a k
          omega
    subst e
    rw [asc_eq qA.2 qB.2 fun x => ?_]
    constructor
    · intro hx
      rcases List.mem_cons.mp ((h x).mp (List.mem_cons_of_mem _ hx)) with k | k
      · rw [k] at hx; exact absurd (qA.1 a hx) (Int.lt_irrefl a)
      · exact k
    · intro hx
      rcases List.mem_cons.mp ((h x).mpr (List.mem_cons_of_mem _ hx)) with k | k
      · rw [k] at hx; exact absurd (qB.1 a hx) (Int.lt_irrefl a)
      · exact k
theorem sub_len {A C : List Int} (pA : A.Pairwise (· < ·)) (pC : C.Pairwise (· < ·)) (s : Sub A C) (ne : C ≠ A) : A.length < C.length := by
  have nA : A.Nodup := Pm.pw_nodup pA
  refine Decidable.byContradiction fun n => ne (asc_eq pC pA fun x => ⟨fun hx => ?_, s x⟩)
  refine Decidable.byContradiction fun k => ?_
  obtain ⟨C1, C2, rfl⟩ := List.append_of_mem hx
  have := nodup_leG (B := C1 ++ C2) nA fun y hy => by
    have ny : y ≠ x := fun e => k (e ▸ hy)
    rcases List.mem_append.mp (s y hy) with h | h
    · exact List.mem_append_left _ h
    · rcases List.mem_cons.mp h with h | h
      · exact absurd h ny
      · exact List.mem_append_right _ h
  simp at this n
  omega
theorem any_sets {A : List Int} {R : List (List Int)} : ((R.map intsD).any fun z => PyData.eqv z (intsD A)) = decide (A ∈ R) := by
  rw [List.any_map]
  induction R with
  | nil => rfl
  | cons C R ih =>
    rw [List.any_cons, ih]
    show (PyData.eqv (intsD C) (intsD A) || decide (A ∈ R)) = _
    rw [eqv_ints]
    by_cases e : C = A
    · simp [e]
    · have e2 : A ≠ C := fun h => e h.symm
      simp [e, e2]
section
open Classical
noncomputable def tops (R : List (List Int)) : List (List Int) := R.filter fun A => decide (¬ ∃ C ∈ R, C ≠ A ∧ Sub A C)
theorem tops_over {R : List (List Int)} (h6 : ∀ C ∈ R, C.length ≤ 6 ∧ C.Pairwise (· < ·)) : ∀ (n : Nat) (A : List Int), A ∈ R → 6 - A.length ≤ n → ∃ C ∈ tops R, Sub A C := by
  intro n
  induction n with
  | zero =>
    intro A hA h
    refine ⟨A, List.mem_filter.mpr ⟨hA, decide_eq_true ?_⟩, fun x hx => hx⟩
    rintro ⟨C, hC, ne, sb⟩
    have := sub_len (h6 A hA).2 (h6 C hC).2 sb ne
    have := (h6 C hC).1
    omega
  | succ n ih =>
    intro A hA h
    by_cases k : ∃ C ∈ R, C ≠ A ∧ Sub A C
    · obtain ⟨C, hC, ne, sb⟩ := k
      have := sub_len (h6 A hA).2 (h6 C hC).2 sb ne
      have := (h6 C hC).1
      obtain ⟨T, hT, st⟩ := ih C hC (by omega)
      exact ⟨T, hT, fun x hx => st x (sb x hx)⟩
    · exact ⟨A, List.mem_filter.mpr ⟨hA, decide_eq_true k⟩, fun x hx => hx⟩
theorem tops_add {R0 R : List (List Int)} {A : List Int} {i : Nat} (h : R[i]? = some A) : (R.take (i + 1)).filter (fun A => decide (¬ ∃ C ∈ R0, C ≠ A ∧ Sub A C)) = if ∃ C ∈ R0, C ≠ A ∧ Sub A C then (R.take i).filter (fun A => decide (¬ ∃ C ∈ R0, C ≠ A ∧ Sub A C)) else (R.take i).filter (fun A => decide (¬ ∃ C ∈ R0, C ≠ A ∧ Sub A C)) ++ [A] := by
  rw [List.take_add_one, h, List.filter_append]
  by_cases k : ∃ C ∈ R0, C ≠ A ∧ Sub A C
  · rw [if_pos k]
    have : ((some A).toList).filter (fun A => decide (¬ ∃ C ∈ R0, C ≠ A ∧ Sub A C)) = [] := by
      rw [List.filter_eq_nil_iff]
      intro y hy z
      obtain rfl : y = A := by simpa using hy
      exact of_decide_eq_true z k
    rw [this, List.append_nil]
  · rw [if_neg k]
    have : ((some A).toList).filter (fun A => decide (¬ ∃ C ∈ R0, C ≠ A ∧ Sub A C)) = [A] := by
      show List.filter _ [A] = [A]
      exact List.filter_eq_self.mpr fun y hy => by rw [List.mem_singleton.mp hy]; exact decide_eq_true k
    rw [this]
noncomputable def topsTo (R : List (List Int)) (i : Nat) : List (List Int) := (R.take i).filter fun A => decide (¬ ∃ C ∈ R, C ≠ A ∧ Sub A C)
end
section
variable {P : Program} {w : World} {K : PySem.W.Frag} {mg : Str → Option Value} {base : Heap} {tC : Tok}
theorem ok_great {f f1 : Addr} {fd fd1 : FuncData} (B : Blt mg tC) (Dl_greatest : Def K mg "_law_greatest" s_l_greatest ["_law_sets"] f fd) (Dl_is_within : Def K mg "_law_is_within" s_l_is_within ["_law_one", "_law_sets"] f1 fd1) : FnOk P w K mg base CX0 2 f fd ["_law_sets"] spGreat := by
  have Gl_is_within := ok_with (P := P) (w := w) (base := base) B Dl_is_within
  refine Dl_greatest.F.ok scl_greatest (fun vs H Q E h => ?_) (fun cdv A outer s H vs Q E hr h => ⟨_, (pss_cons (ps_set (i := 1) scl_greatest.nd rfl (Or.inr rfl) (pe_lst pa_nil))
  (pss_cons (ps_for PassesOwn.never rfl (pi_list (pv 0)) (pg_name (i := 2) scl_greatest.nd rfl (Or.inl rfl))
   (pss_one (ps_if (pt_cmpR (op_notInD (un65 hr)) (pv 2) (pv 1) (by rfl))
   (pss_one (ps_expr (pe_bm PySem.F.plainAttrs_list PySem.F.slot_list_append PySem.F.type_list_append mt_append (pv 1) (pa_cons (pv 2) pa_nil))))
   pss_nil)))
  (pss_one (ps_ret (pe_lc (own := [("_law_one", 2)]) (g := (gName 2))  rfl scl_greatest.nd (pi_list (pv 1)) (blkOk_by (N := ["_law_sets", "_law_found", "_law_one"]) (sc := defScope s_l_greatest) (by decide +kernel)) (fun _ _ _ _ _ => (pg_name (i := 2) scl_greatest.nd rfl (Or.inl rfl))) (fun _ _ _ _ _ => pts_one (pt_not (pt_val (pe_call Gl_is_within (hr.mono (by decide)) (by rfl) Dl_is_within.g Dl_is_within.F.kp Dl_is_within.b .nil pass0 (pa_cons (pv 2) (pa_cons (pv 1) pa_nil)))))) (fun _ _ _ _ _ => (pv 2))))))), ?_⟩)
  · obtain ⟨L, S, rfl, _⟩ := h; rfl
  · obtain ⟨L, S, rfl, ⟨xs, hS, hX⟩, s216, c6, q⟩ := h
    have lx := paired_len hX
    refine ⟨Nat.zero_le _, fun D hD => ?_⟩
    have sD := Same.new hD (o := .lst [])
    refine ⟨_, rfl, L, rfl, ⟨_, SqL.of (sD _ _ hS)⟩, ?_⟩
    refine for_list (xs := xs) (fun i σ H' => ∃ (ac : List V) (R0 : List (List Int)) (y2 : Option V), σ = [some (.ref L), some (.ref D), y2] ∧ Same H H' ∧ H' D = some (.lst ac) ∧ Paired (IntsAt H) ac R0 ∧ R0.length ≤ i ∧ (∀ A ∈ R0, A ∈ S) ∧ ∀ A ∈ S.take i, A ∈ R0)
      ⟨[], [], _, rfl, sD, upd_same, .nil, Nat.le_refl _, fun A h => (List.not_mem_nil h).elim, fun A h => by rw [List.take_zero] at h; exact (List.not_mem_nil h).elim⟩ (fun i σ H' _ ⟨_, _, _, _, s, _⟩ => SqL.of (s _ _ hS)) ?_ ?_
    · rintro i z σ H1 hz ⟨ac, R0, y2, rfl, s1, eD, hA, l0, r1, r2⟩
      obtain ⟨A, hAi, a, rfl, ha⟩ := paired_at hX hz
      have mA := List.mem_of_getElem? hAi
      have hi := (List.getElem?_eq_some_iff.mp hz).1
      have la := paired_len hA
      have tk : S.take (i + 1) = S.take i ++ [A] := by rw [List.take_add_one, hAi]; rfl
      refine ⟨_, rfl, _, rfl, intsD A, R0.map intsD, .lst (SqL.of (s1 _ _ ha)) (dp_ints A), .lst (SqL.of eD) (dp_sets (L2.Paired.mapP hA fun _ _ ⟨a, e, h⟩ => ⟨a, e, s1 _ _ h⟩)), shaped_ints A, shaped_sets R0, !decide (A ∈ R0), congrArg V.bl (by rw [any_sets]), ?_⟩
      by_cases k : A ∈ R0
      · rw [decide_eq_true k]
        refine iteF ?_
        refine ⟨ac, R0, _, rfl, s1, eD, hA, by omega, r1, fun C hC => ?_⟩
        rw [tk] at hC
        rcases List.mem_append.mp hC with h | h
        · exact r2 C h
        · rw [List.mem_singleton.mp h]; exact k
      · rw [decide_eq_false k]
        refine iteT ?_
        refine ⟨_, rfl, .inl ⟨rfl, _, SqL.of eD⟩, _, rfl, D, ac, _, rfl, rfl, eD, smallL (by omega), ?_⟩
        refine ⟨ac ++ [.ref a], R0 ++ [A], _, rfl, same_upd s1 hD, upd_same, paired_snoc hA ⟨a, rfl, ha⟩, by simp; omega, fun C hC => ?_, fun C hC => ?_⟩
        · rcases List.mem_append.mp hC with h | h
          · exact r1 C h
          · rw [List.mem_singleton.mp h]; exact mA
        · rw [tk] at hC
          rcases List.mem_append.mp hC with h | h
          · exact List.mem_append_left _ (r2 C h)
          · exact List.mem_append_right _ h
    · rintro σ H1 ⟨ac, R0, y2, rfl, s1, eD, hA, l0, r1, r2⟩
      rw [List.take_of_length_le (by omega)] at r2
      have la := paired_len hA
      have h6 : ∀ C ∈ R0, C.length ≤ 6 ∧ C.Pairwise (· < ·) := fun C hC => c6 C (r1 C hC)
      refine ⟨_, rfl, D, rfl, ⟨_, SqL.of eD⟩, fun G hG => ?_⟩
      refine lc_list (xs := ac) (fun i H' => Same H1 H' ∧ ∃ bc, H' G = some (.lst bc) ∧ bc.length ≤ i ∧ Paired (IntsAt H) bc (topsTo R0 i)) ⟨Same.new hG, [], upd_same, Nat.le_refl _, .nil⟩ (fun i H' _ ⟨s, _⟩ => SqL.of (s _ _ eD)) ?_ ?_
      · rintro i z H2 hz ⟨s2, bc, eG, lb, hB⟩
        obtain ⟨A, hAi, a, rfl, ha⟩ := paired_at hA hz
        have mA := List.mem_of_getElem? hAi
        have hi := (List.getElem?_eq_some_iff.mp hz).1
        have ad := tops_add (R0 := R0) hAi
        refine ⟨rfl, ?_⟩
        have s12 := s1.trans s2
        refine ⟨_, rfl, _, rfl, a, D, A, R0, rfl, s12 _ _ ha, ⟨ac, s2 _ _ eD, L2.Paired.mapP hA fun _ _ ⟨a, e, h⟩ => ⟨a, e, s12 _ _ h⟩⟩, by omega, (h6 A mA).1, fun C hC => (h6 C hC).1, fun H3 b s3 hb => ⟨b, rfl, ?_⟩⟩
        cases b with
        | true =>
          refine iteF ?_
          rw [if_pos (hb.mp rfl)] at ad
          exact ⟨s2.trans s3, bc, s3 _ _ eG, by omega, by unfold topsTo at hB ⊢; rw [ad]; exact hB⟩
        | false =>
          refine iteT ?_
          rw [if_neg (fun h => nomatch hb.mpr h)] at ad
          refine ⟨_, rfl, bc, s3 _ _ eG, smallL (by omega), same_upd (s2.trans s3) hG, bc ++ [.ref a], upd_same, by simp; omega, ?_⟩
          unfold topsTo at hB ⊢
          rw [ad]
          exact paired_snoc hB ⟨a, rfl, ha⟩
      · rintro H2 ⟨s2, bc, eG, lb, hB⟩
        have et : topsTo R0 ac.length = tops R0 := by
          unfold topsTo tops
          rw [List.take_of_length_le (by omega)]
        rw [et] at hB
        have s12 := s1.trans s2
        have lB := paired_len hB
        refine q G H2 (tops R0) s12 ⟨bc, eG, L2.Paired.mapP hB fun _ _ ⟨a, e, h⟩ => ⟨a, e, s12 _ _ h⟩⟩ (fun A hA => r1 A (List.mem_filter.mp hA).1) (fun A hA => tops_over h6 6 A (r2 A hA) (by omega)) (by omega)
end
end Gr

set_option Elab.async false
set_option linter.all false
set_option pp.deepTerms false
set_option pp.maxSteps 3000
set_option maxRecDepth 100000
set_option maxHeartbeats 8000000
set_option exponentiation.threshold 3000
namespace Gr
open PySem PySem.Spec PyProof.Rows L2
open Pm (Rn)
open Few
theorem int_fit {n : Int} (h : n.natAbs < 2 ^ 1000) : n.natAbs.log2 < 1920 ∧ (PyData.int n).shown.length ≤ 2000 := by
  have l : n.natAbs.log2 < 1920 := by
    have := PySem.Flt.log2_lt_of (n := n.natAbs) (k := 1000) (by decide) h
    omega
  refine ⟨l, ?_⟩
  simp only [PyData.shown]
  have e := PySem.int_text_length_le (a := n) (k := 1920) (by decide) l
  rw [PySem.ofString_length]
  omega
def tripW (r : Rn) : PyData := .tuple [.int r.1, .int r.2.1, .int r.2.2]
theorem dp_tripW {K : PySem.W.Frag} {H : Hp} {xs : List V} {rs : List Rn} (h : Paired (RnAt H) xs rs) : DpAll K H xs (rs.map tripW) := by
  induction h with
  | nil => exact .nil
  | cons r t ih =>
    obtain ⟨b, rfl, h⟩ := r
    exact .cons (.tup (SqT.of h) (.cons (.int _) (.cons (.int _) (.cons (.int _) .nil)))) ih
theorem lay_tripW : ∀ rs : List Rn, PyData.canLayAll0 (rs.map tripW) = true
  | [] => by simp [PyData.canLayAll0]
  | r :: rs => by simp [PyData.canLayAll0, PyData.canLay0, tripW, lay_tripW rs]
theorem depth_tripW : ∀ rs : List Rn, PyData.depthAll (rs.map tripW) ≤ 5
  | [] => by simp [PyData.depthAll]
  | r :: rs => by
    have := depth_tripW rs
    simp only [List.map_cons, PyData.depthAll, PyData.depth, tripW]
    omega
theorem shaped_tripW (rs : List Rn) : SeqAt.shaped (.list (rs.map tripW)) = true := by
  have h := depth_tripW rs
  unfold SeqAt.shaped
  rw [Bool.and_eq_true]
  refine ⟨by simpa only [PyData.canLay0] using lay_tripW rs, decide_eq_true ?_⟩
  simp only [PyData.depth]
  omega
theorem neNilW {K : PySem.W.Frag} {H : Hp} {a b : Addr} {xs : List V} {rs : List Rn} {Q : VK} (ha : H a = some (.lst xs)) (h : Paired (RnAt H) xs rs) (hb : H b = some (.lst [])) (q : Q (.bl !rs.isEmpty) H) : rNeD K (.ref a) (.ref b) H Q := by
  refine ⟨_, _, .lst (SqL.of ha) (dp_tripW h), .lst (SqL.of hb) .nil, shaped_tripW rs, by decide +kernel, ?_⟩
  have : PyData.eqv (.list (rs.map tripW)) (.list []) = rs.isEmpty := by cases rs <;> simp [PyData.eqv, PyData.eqvAll]
  rw [this]
  exact q
def BN (rs : List Rn) : Prop := ∀ r ∈ rs, r.1.natAbs < 2 ^ 1000 ∧ r.2.1.natAbs < 2 ^ 1000 ∧ r.2.2.natAbs < 2 ^ 1000
theorem tripW_fit {r : Rn} (h : r.1.natAbs < 2 ^ 1000 ∧ r.2.1.natAbs < 2 ^ 1000 ∧ r.2.2.natAbs < 2 ^ 1000) : (tripW r).showable = true ∧ (tripW r).shown.length ≤ 6010 := by
  have h1 := int_fit h.1
  have h2 := int_fit h.2.1
  have h3 := int_fit h.2.2
  refine ⟨by simp [tripW, PyData.showable, PyData.showableAll, h1.1, h2.1, h3.1], ?_⟩
  unfold tripW
  have e : (PyData.tuple [.int r.1, .int r.2.1, .int r.2.2]).shown = tupleText [(PyData.int r.1).shown, (PyData.int r.2.1).shown, (PyData.int r.2.2).shown] := by simp only [PyData.shown, PyData.shownAll]
  rw [e]
  refine Nat.le_trans (tupleText_len_le _) ?_
  simp only [List.map_cons, List.map_nil, List.sum_cons, List.sum_nil, List.length_cons, List.length_nil]
  omega
theorem trips_fit {rs : List Rn} (l : rs.length ≤ 600) (h : BN rs) : (PyData.list (rs.map tripW)).showable = true ∧ (PyData.list (rs.map tripW)).hasDict = false ∧ (PyData.list (rs.map tripW)).depth ≤ 40 ∧ (PyData.list (rs.map tripW)).shown.length ≤ sizeLine := by
  have sh : ∀ rs : List Rn, BN rs → PyData.showableAll (rs.map tripW) = true := by
    intro rs
    induction rs with
    | nil => intro _; simp [PyData.showableAll]
    | cons r rs ih => intro h; simp [PyData.showableAll, (tripW_fit (h r (by simp))).1, ih fun s hs => h s (List.mem_cons_of_mem _ hs)]
  have hd : ∀ rs : List Rn, PyData.hasDictAll (rs.map tripW) = false := by
    intro rs
    induction rs with
    | nil => simp [PyData.hasDictAll]
    | cons r rs ih => simp [PyData.hasDictAll, tripW, PyData.hasDict, ih]
  have dp : ∀ rs : List Rn, PyData.depthAll (rs.map tripW) ≤ 5 := by
    intro rs
    induction rs with
    | nil => simp [PyData.depthAll]
    | cons r rs ih => simp only [List.map_cons, PyData.depthAll, PyData.depth, tripW]; omega
  have ln : ∀ rs : List Rn, BN rs → ((PyData.shownAll (rs.map tripW)).map (·.length)).sum ≤ 6010 * rs.length ∧ (PyData.shownAll (rs.map tripW)).length = rs.length := by
    intro rs
    induction rs with
    | nil => intro _; simp [PyData.shownAll]
    | cons r rs ih =>
      intro h
      have h1 := (tripW_fit (h r (by simp))).2
      obtain ⟨h2, h3⟩ := ih fun s hs => h s (List.mem_cons_of_mem _ hs)
      simp only [List.map_cons, PyData.shownAll, List.sum_cons, List.length_cons]
      omega
  refine ⟨by simpa only [PyData.showable] using sh rs h, by simpa only [PyData.hasDict] using hd rs, by have := dp rs; simp only [PyData.depth]; omega, ?_⟩
  have e : (PyData.list (rs.map tripW)).shown = listText (PyData.shownAll (rs.map tripW)) := by simp only [PyData.shown]
  rw [e]
  have z : 4000000 ≤ sizeLine := by decide
  refine Nat.le_trans (listText_len_le _) ?_
  obtain ⟨h1, h2⟩ := ln rs h
  rw [h2]
  omega
section
variable {m c : Int} {F G : Int → Int}
theorem nn_of {rs : List Rn} (ok : Pm.Ok c rs) (h : ∀ r ∈ rs, r.1 ≤ r.2.2) (x : Int) (l : Ls (Pm.F c rs) x) : 0 ≤ Dn (Pm.F c rs) x := by
  obtain ⟨y, hy⟩ := (F_grows ok x).mpr l
  have ey := F_last ok hy
  obtain ⟨u, hu, k, k1, k2, rfl⟩ := hy
  have := h u hu
  unfold Dn
  omega
theorem nn_back {Z : List Rn} (ok : Pm.Ok c Z) (h : ∀ s, Ls (Pm.F c Z) s → 0 ≤ Dn (Pm.F c Z) s) (r : Rn) (hr : r ∈ Z) : 0 ≤ r.2.2 - r.1 := by
  have fl := ok.fl r hr
  have g : Pm.G c Z r.1 r.2.2 := ⟨r, hr, 0, by omega, by omega, by omega⟩
  have l := (F_grows ok r.1).mp ⟨_, g⟩
  have := h r.1 l
  unfold Dn at this
  rw [F_last ok g] at this
  exact this
end
theorem F_cong {c : Int} {A Z : List Rn} (g : ∀ z y, Pm.G c A z y ↔ Pm.G c Z z y) : Pm.F c A = Pm.F c Z := by
  unfold Pm.F
  rw [F_same g]
theorem few_good {c M : Int} {rs ws : List Rn} (ok : Pm.Ok c rs) (nnr : ∀ r ∈ rs, r.1 ≤ r.2.2) (few : FewL c (Pm.F c rs) ws) (tb : ∀ r ∈ rs, r.2.2 - r.1 ≤ M) : ∀ w ∈ ws, GoodW c w ∧ w.2.2 ≤ M := by
  obtain ⟨g, top, _, _, _, mem⟩ := few
  intro w hw
  have tw := (mem w).mp hw
  refine ⟨tw_good ok.mono (nn_of ok nnr) tw, ?_⟩
  obtain ⟨s, hs⟩ : ∃ s, Sd (Pm.F c rs) w.2.2 s := by
    rcases tw with ⟨rfl, s, hs⟩ | ⟨_, _, e, h⟩
    · exact ⟨s, hs⟩
    · exact ⟨_, h.ha⟩
  obtain ⟨y, hy⟩ := (F_grows ok s).mpr hs.1
  have ey := F_last ok hy
  obtain ⟨u, hu, k, k1, k2, rfl⟩ := hy
  have := tb u hu
  have e := hs.2
  unfold Dn at e
  omega
theorem isMin_one {l : List Int} {u v : Int} (hu : IsMin u l) (hv : IsMin v l) : u = v := by
  have := hu.2 v hv.1
  have := hv.2 u hu.1
  omega
theorem rows_ne {n : Int} {p L : Addr} {H : Hp} {rs : List Rn} (hP : Pond n p H) (h : RowsAt H L rs) : L ≠ p := fun e => by
  obtain ⟨a, b, d, h1, _⟩ := hP
  obtain ⟨xs, hL, hX⟩ := h
  rw [e, h1] at hL
  obtain rfl := HO.lst.inj (Option.some.inj hL)
  obtain ⟨r, _, q, e, _⟩ := paired_at hX (i := 0) rfl
  cases e
theorem from_eq {c : Int} {Z Z' ws : List Rn} (cZ : Pm.Can c Z) (cZ' : Pm.Can c Z') (nn : ∀ s, Ls (Pm.F c Z) s → 0 ≤ Dn (Pm.F c Z) s) (few : FewL c (Pm.F c Z) ws) (cov : CovL c (Pm.F c Z) ws) (mn : ∀ x, IsMin (Pm.F c Z' x) (ws.map fun w => Pm.F c (winZ w) x)) : Z' = Z :=
  can_eq cZ' cZ fun t => isMin_one (mn t) (few_min cZ.1.mono nn few cov t)
theorem cov_ne {c : Int} {F : Int → Int} {ws : List Rn} (m : Pm.Mono c F) (cov : CovL c F ws) : ws ≠ [] := fun e => by
  obtain ⟨s, _, hs, _⟩ := next_ls m 0
  obtain ⟨w, hw, _⟩ := cov s hs
  rw [e] at hw
  cases hw
theorem good_bn {c M : Int} {ws : List Rn} (h : ∀ w ∈ ws, GoodW c w ∧ w.2.2 ≤ M) (c30 : c ≤ 10 ^ 30) (m50 : M ≤ 10 ^ 50) : BN ws := fun w hw => by
  have z : 2 * (10 : Int) ^ 30 < ((2 ^ 1000 : Nat) : Int) ∧ (10 : Int) ^ 50 < ((2 ^ 1000 : Nat) : Int) := by decide +kernel
  obtain ⟨h1, h2⟩ := h w hw
  unfold GoodW at h1
  omega
def later (b : Int) (r : Rn) : Rn := (r.1, r.2.1, r.2.2 + b)
theorem ok_later {c : Int} {rs : List Rn} (b : Int) (ok : Pm.Ok c rs) : Pm.Ok c (rs.map (later b)) := by
  have go : ∀ u v : Rn, Pm.GoesOn u v → Pm.GoesOn (later b u) (later b v) := fun u v h => by
    unfold Pm.GoesOn Pm.la later at *
    simp only [] at *
    omega
  have mvs : ∀ u : Rn, Pm.mv (-c) (later b u) = later b (Pm.mv (-c) u) := fun u => by
    unfold later
    refine Prod.ext rfl (Prod.ext rfl ?_)
    simp only [Pm.mv3]; omega
  refine ⟨ok.c1, fun e => ok.ne (List.map_eq_nil_iff.mp e), fun r hr => ?_, ?_, fun x hx y hy => ?_⟩
  · obtain ⟨u, hu, rfl⟩ := List.mem_map.mp hr
    exact ok.fl u hu
  · rw [List.pairwise_map]
    exact ok.pw.imp fun {a b} h => go a b h
  · obtain ⟨u, hu, rfl⟩ := List.mem_map.mp hx
    obtain ⟨v, hv, rfl⟩ := List.mem_map.mp hy
    rw [mvs]
    exact go _ _ (ok.cy u hu v hv)
theorem F_later {c b : Int} {rs : List Rn} (ok : Pm.Ok c rs) (x : Int) : Pm.F c (rs.map (later b)) x = Pm.F c rs x + b := by
  have ok' := ok_later b ok
  have mo := ok.mono
  have mo' := ok'.mono
  obtain ⟨s, s1, s2, s3⟩ := next_ls mo x
  have tr : ∀ z, Ls (Pm.F c rs) z → Pm.F c (rs.map (later b)) z = Pm.F c rs z + b := fun z l => by
    obtain ⟨y, hy⟩ := (F_grows ok z).mpr l
    have ey := F_last ok hy
    obtain ⟨u, hu, k, k1, k2, rfl⟩ := hy
    have g : Pm.G c (rs.map (later b)) z (u.2.2 + b + z - u.1) := ⟨later b u, List.mem_map.mpr ⟨u, hu, rfl⟩, k, k1, k2, rfl⟩
    rw [F_last ok' g, ey]; omega
  have back : ∀ z, Ls (Pm.F c (rs.map (later b))) z → Ls (Pm.F c rs) z := fun z l => by
    obtain ⟨y, hy⟩ := (F_grows ok' z).mpr l
    obtain ⟨v, hv, k, k1, k2, _⟩ := hy
    obtain ⟨u, hu, rfl⟩ := List.mem_map.mp hv
    exact (F_grows ok z).mp ⟨_, u, hu, k, k1, k2, rfl⟩
  have cn := Pm.const_on mo'.up (s - x).toNat x fun z p q l => by
    have l := back z l
    have e1 := mo.up x z p
    have e2 := mo.up (z + 1) s (by omega)
    unfold Ls at l
    omega
  rw [show x + ((s - x).toNat : Int) = s by omega, tr s s2, s3] at cn
  exact cn.symm
/-- the told windows are as many as the least cover has sets -/
theorem cover_few {c : Int} {F : Int → Int} {ws : List Rn} {S R : List (List Int)} {L : List Int} (m : Pm.Mono c F) (nn : ∀ s, Ls F s → 0 ≤ Dn F s) (few : FewL c F ws) (cov : CovL c F ws) (hL : ∀ x, x ∈ L ↔ 0 ≤ x ∧ x < c)
    (hS : Sets c F S fun w => ∃ s, w.2.2 = Dn F s) (r1 : ∀ A ∈ R, A ∈ S) (r2 : ∀ A ∈ S, ∃ C ∈ R, Sub A C) : MinC R L ws.length ∧ ∀ x ∈ L, ∃ A ∈ R, x ∈ A := by
  have mn := fun x => few_min m nn few cov x
  obtain ⟨g, top, _, _, nd, mem⟩ := few
  have c1 := m.c1
  have late : ∀ w ∈ ws, Late c F w := fun w hw => ⟨tw_good m nn ((mem w).mp hw), fun x => (mn x).2 _ (List.mem_map.mpr ⟨w, hw, rfl⟩)⟩
  have inS : ∀ w ∈ ws, metL c F w ∈ S := fun w hw => by
    have tw := (mem w).mp hw
    obtain ⟨x, x0, x1, sx, ex⟩ := own_ex m tw
    have lw := late w hw
    refine hS.all w ⟨x, sx.2.symm⟩ lw fun e => ?_
    have : x ∈ metL c F w := by
      rw [mem_met]
      refine ⟨x0, x1, ?_⟩
      have rng : w.1 + 0 * c ≤ x ∧ x ≤ w.2.1 + 0 * c := by
        rcases tw with ⟨rfl, _⟩ | ⟨w0, wc, hw⟩
        · simp only []; omega
        · rcases ex with h | h
          · have := hw.lt top; omega
          · have le : w.1 ≤ w.2.1 := by obtain ⟨e, z⟩ := hw; exact z.le
            omega
      have v := (late_in m lw 0 x rng.1 rng.2).1
      have := sx.2
      unfold Dn at this
      omega
    rw [e] at this
    cases this
  have at1 : ∀ x ∈ L, ∃ w ∈ ws, x ∈ metL c F w := fun x hx => by
    obtain ⟨w, hw, e⟩ := List.mem_map.mp (mn x).1
    have := (hL x).mp hx
    exact ⟨w, hw, mem_met.mpr ⟨this.1, this.2, e⟩⟩
  refine ⟨few_cover m top nd (fun w hw => (mem w).mp hw) hL (fun A hA => ?_) ?_, fun x hx => ?_⟩
  · obtain ⟨w, lw, e⟩ := hS.one A (r1 A hA)
    exact ⟨w, lw, fun x hx => by rw [e] at hx; exact (mem_met.mp hx).2.2⟩
  · classical
    have pick : ∀ w, ∃ C : List Int, w ∈ ws → C ∈ R ∧ Sub (metL c F w) C := fun w => by
      by_cases h : w ∈ ws
      · obtain ⟨C, hC, sb⟩ := r2 _ (inS w h)
        exact ⟨C, fun _ => ⟨hC, sb⟩⟩
      · exact ⟨[], fun k => absurd k h⟩
    refine ⟨ws.map fun w => (pick w).choose, by rw [List.length_map], fun A hA => ?_, fun x hx => ?_⟩
    · obtain ⟨w, hw, rfl⟩ := List.mem_map.mp hA
      exact ((pick w).choose_spec hw).1
    · obtain ⟨w, hw, xm⟩ := at1 x hx
      exact ⟨_, List.mem_map.mpr ⟨w, hw, rfl⟩, ((pick w).choose_spec hw).2 x xm⟩
  · obtain ⟨w, hw, xm⟩ := at1 x hx
    obtain ⟨C, hC, sb⟩ := r2 _ (inS w hw)
    exact ⟨C, hC, sb x xm⟩
theorem MinC.uniq {S : List (List Int)} {L : List Int} {a b : Nat} (h1 : MinC S L a) (h2 : MinC S L b) : a = b := Nat.le_antisymm (h1.2 b h2.1) (h2.2 a h1.1)
end Gr

set_option Elab.async false
set_option linter.all false
set_option pp.deepTerms false
set_option pp.maxSteps 3000
set_option maxRecDepth 100000
set_option maxHeartbeats 8000000
set_option exponentiation.threshold 3000
namespace Gr
open PySem PySem.Spec PyProof.Rows L2
open Pm (Rn)
open Few
theorem eqv_tripA : ∀ rs : List Rn, PyData.eqvAll (rs.map tripW) (rs.map tripW) = true
  | [] => by simp [PyData.eqvAll]
  | r :: rs => by simp [PyData.eqvAll, PyData.eqv, tripW, eqv_tripA rs]
theorem eqv_tripL (rs : List Rn) : PyData.eqv (.list (rs.map tripW)) (.list (rs.map tripW)) = true := by simpa only [PyData.eqv] using eqv_tripA rs
theorem met_len {c : Int} {F : Int → Int} {w : Rn} (c6 : c ≤ 6) : (metL c F w).length ≤ 6 := by
  unfold metL
  rw [List.length_map]
  refine Nat.le_trans (List.length_filter_le _ _) ?_
  rw [List.length_range]
  omega
def spRight : Sp := fun vs H Q _ => ∃ (p : Addr) (n c : Int), vs = [.ref p, .int c] ∧ Pond n p H ∧ n ≤ 9 * 10 ^ 5 ∧ 1 ≤ c ∧ c ≤ 6 ∧ ∀ H', But p H H' → Pond (n + 20100) p H' → Q (.bl true) H'
section
variable {P : Program} {w : World} {K : PySem.W.Frag} {mg : Str → Option Value} {base : Heap} {tC : Tok}
theorem ok_right {C fI fC f f2 f3 f4 f5 f6 f7 f8 f9 fa fb fc fg : Addr} {fdI fd fd2 fd3 fd4 fd5 fd6 fd7 fd8 fd9 fda fdb fdc fdg : FuncData} (B : Blt mg tC) (TP : TxtP K mg C fI fC) (IP : IsP K C) (Dl_right : Def K mg "_law_right" s_l_right ["_law_spring_here", "_law_cycle_here"] f fd) (Dl_take : Def K mg "_law_take" s_l_take ["_law_spring_here", "_law_many"] f2 fd2) (Dl_rows : Def K mg "_law_rows" s_l_rows ["_law_spring_here", "_law_cycle_here", "_law_many", "_law_begin", "_law_arrival"] f3 fd3) (Dl_shares : Def K mg "_law_shares" s_l_shares ["_law_spring_here", "_law_total", "_law_many"] f4 fd4) (Dl_to : Def K mg "_law_to" s_l_to ["_law_cycle_here", "_law_rows_here", "_law_start"] f5 fd5) (Dl_able : Def K mg "_law_able" s_l_able ["_law_cycle_here", "_law_table"] f6 fd6) (Dl_by : Def K mg "_law_by" s_l_by ["_law_cycle_here", "_law_windows", "_law_start"] f7 fd7) (Dl_greatest : Def K mg "_law_greatest" s_l_greatest ["_law_sets"] f8 fd8) (Dl_is_within : Def K mg "_law_is_within" s_l_is_within ["_law_one", "_law_sets"] f9 fd9) (Dfewest_windows : Def K mg "fewest_windows" s_fewest_windows ["passage"] fa fda) (DP_init : DefM K "__init__" "Passage.__init__" s_P_init ["self", "cycle", "runs"] fI fdI) (Dfrom_windows : Def K mg "from_windows" s_from_windows ["cycle", "windows"] fb fdb) (DP_eq : DefM K "__eq__" "Passage.__eq__" s_P_eq ["self", "other"] fc fdc) (Dl_fewest : Def K mg "_law_fewest" s_l_fewest ["_law_sets", "_law_left"] fg fdg)
    (GP_init : FnOk P w K mg base CX0 4 fI fdI ["self", "cycle", "runs"] (spInitP C)) (Gfewest_windows : FnOk P w K mg base CX0 4 fa fda ["passage"] (spFewest C)) (NF : NeP K C) (MP_eq : Meth K C "__eq__" fc) (GP_eq : FnOk P w K mg base CX0 1 fc fdc ["self", "other"] (spEq (EqP C))) (Gfrom_windows : FnOk P w K mg base CX0 9 fb fdb ["cycle", "windows"] (spFrom C)) : FnOk P w K mg base CX0 11 f fd ["_law_spring_here", "_law_cycle_here"] spRight := by
  have Gl_take := ok_take (P := P) (w := w) (base := base) B Dl_take
  have Gl_rows := ok_rows (P := P) (w := w) (base := base) B Dl_rows Dl_take Dl_shares
  have Gl_to := ok_to (P := P) (w := w) (base := base) B Dl_to
  have Gl_able := ok_able (P := P) (w := w) (base := base) B Dl_able Dl_by
  have Gl_greatest := ok_great (P := P) (w := w) (base := base) B Dl_greatest Dl_is_within
  have Gl_fewest := ok_fewestN (P := P) (w := w) (base := base) B Dl_fewest 6
  have CO := TP.co
  refine Dl_right.F.ok scl_right (fun vs H Q E h => ?_) (fun cdv A outer s H vs Q E hr h => ⟨_, (pss_cons (ps_set (i := 2) scl_right.nd rfl (Or.inl rfl) (pe_call Gl_take (hr.mono (by decide)) (by rfl) Dl_take.g Dl_take.F.kp Dl_take.b .nil pass0 (pa_cons (pv 0) (pa_cons (pv 1) pa_nil))))
  (pss_cons (ps_set (i := 3) scl_right.nd rfl (Or.inr rfl) (pe_call Gl_rows (hr.mono (by decide)) (by rfl) Dl_rows.g Dl_rows.F.kp Dl_rows.b .nil pass0 (pa_cons (pv 0) (pa_cons (pv 1) (pa_cons (pe_op op_add pe_int (pe_call Gl_take (hr.mono (by decide)) (by rfl) Dl_take.g Dl_take.F.kp Dl_take.b .nil pass0 (pa_cons (pv 0) (pa_cons pe_int pa_nil)))) (pa_cons (pv 2) (pa_cons (pe_op op_add (pv 2) (pe_call Gl_take (hr.mono (by decide)) (by rfl) Dl_take.g Dl_take.F.kp Dl_take.b .nil pass0 (pa_cons (pv 0) (pa_cons pe_int pa_nil)))) pa_nil)))))))
  (pss_cons (ps_setLc (i := 4) (own := [("_law_start", 5)]) (g := (gName 5)) (tt := tYes) rfl scl_right.nd rfl rfl (sw_true rfl rfl rfl (by decide +kernel)) (pi_range1 (by rfl) B.range (pa_cons (pv 1) pa_nil)) (blkOk_by (N := ["_law_spring_here", "_law_cycle_here", "_law_begin", "_law_rows_here", "_law_table", "_law_start", "_law_by_here", "_law_one", "_law_row", "_law_passage", "_law_told", "_law_window", "_law_sets"]) (sc := defScope s_l_right) (by decide +kernel)) (fun _ _ _ _ _ => (pg_name (i := 5) scl_right.nd rfl (Or.inl rfl))) (fun _ _ _ _ _ => pts_nil) (fun _ _ _ _ _ => (pe_call Gl_to (hr.mono (by decide)) (by rfl) Dl_to.g Dl_to.F.kp Dl_to.b .nil pass0 (pa_cons (pv 1) (pa_cons (pv 3) (pa_cons (pv 5) pa_nil))))))
  (pss_cons (ps_set (i := 6) scl_right.nd rfl (Or.inr rfl) (pe_callB (cr_max rfl) (by rfl) B.n_max (by decide +kernel) (pa_cons (pe_op op_cat (pe_lst (pa_cons pe_int pa_nil)) (pe_lc (own := [("_law_start", 5), ("_law_one", 7)]) (g := (gTup K 2 (gCons (gName 5) (gCons (gName 7) gNil)))) (tt := tYes) rfl scl_right.nd (pi_enum (by rfl) B.n_enumerate (pa_cons (pv 4) pa_nil)) (blkOk_by (N := ["_law_spring_here", "_law_cycle_here", "_law_begin", "_law_rows_here", "_law_table", "_law_start", "_law_by_here", "_law_one", "_law_row", "_law_passage", "_law_told", "_law_window", "_law_sets"]) (sc := defScope s_l_right) (by decide +kernel)) (fun _ _ _ _ _ => (pg_tup rfl (pgs_cons (pg_name (i := 5) scl_right.nd rfl (Or.inl rfl)) (pgs_cons (pg_name (i := 7) scl_right.nd rfl (Or.inl rfl)) pgs_nil)))) (fun _ _ _ _ _ => pts_nil) (fun _ _ _ _ _ => (pe_op op_sub (pv 5) (pv 7))))) pa_nil)))
  (pss_cons (ps_set (i := 3) scl_right.nd rfl (Or.inr rfl) (pe_lc (own := [("_law_row", 8)]) (g := (gName 8)) (tt := tYes) rfl scl_right.nd (pi_list (pv 3)) (blkOk_by (N := ["_law_spring_here", "_law_cycle_here", "_law_begin", "_law_rows_here", "_law_table", "_law_start", "_law_by_here", "_law_one", "_law_row", "_law_passage", "_law_told", "_law_window", "_law_sets"]) (sc := defScope s_l_right) (by decide +kernel)) (fun _ _ _ _ _ => (pg_name (i := 8) scl_right.nd rfl (Or.inl rfl))) (fun _ _ _ _ _ => pts_nil) (fun _ _ _ _ _ => (pe_tup (pa_cons (pe_ix (r := rIxT K) (by exact ix_tup) (pv 8) pe_int (fun _ _ => rfl)) (pa_cons (pe_ix (r := rIxT K) (by exact ix_tup) (pv 8) pe_int (fun _ _ => rfl)) (pa_cons (pe_op op_add (pe_ix (r := rIxT K) (by exact ix_tup) (pv 8) pe_int (fun _ _ => rfl)) (pv 6)) pa_nil)))))))
  (pss_cons (ps_par (i := 4) (j := 9) rfl scl_right.nd rfl rfl (by decide) rfl rfl (pa_cons (pe_lc (own := [("_law_one", 7)]) (g := (gName 7)) (tt := tYes) rfl scl_right.nd (pi_list (pv 4)) (blkOk_by (N := ["_law_spring_here", "_law_cycle_here", "_law_begin", "_law_rows_here", "_law_table", "_law_start", "_law_by_here", "_law_one", "_law_row", "_law_passage", "_law_told", "_law_window", "_law_sets"]) (sc := defScope s_l_right) (by decide +kernel)) (fun _ _ _ _ _ => (pg_name (i := 7) scl_right.nd rfl (Or.inl rfl))) (fun _ _ _ _ _ => pts_nil) (fun _ _ _ _ _ => (pe_op op_add (pv 7) (pv 6)))) (pa_cons (pe_make TP.mks GP_init (hr.mono (by decide)) (by rfl) TP.mgC DP_init.b .nil pass0 (pa_cons (pv 1) (pa_cons (pe_callTy call_tuple_of (by rfl) B.n_tuple (by decide +kernel) (pa_cons (pv 3) pa_nil)) pa_nil))) pa_nil)) (by rfl))
  (pss_cons (ps_set (i := 10) scl_right.nd rfl (Or.inl rfl) (pe_call Gfewest_windows (hr.mono (by decide)) (by rfl) Dfewest_windows.g Dfewest_windows.F.kp Dfewest_windows.b .nil pass0 (pa_cons (pv 9) pa_nil)))
  (pss_cons (ps_if (PW.pt (pw_or (pt_cmpR (op_neG GP_eq MP_eq DP_eq.b NF (hr.mono (by decide)) pass0) (pe_call Gfrom_windows (hr.mono (by decide)) (by rfl) Dfrom_windows.g Dfrom_windows.F.kp Dfrom_windows.b .nil pass0 (pa_cons (pv 1) (pa_cons (pv 10) pa_nil))) (pv 9) (nomark _)) (pw_or1 (pt_cmpR (op_neD hr.units) (pv 10) (pe_callB cr_sortedTs (by rfl) B.n_sorted (by decide +kernel) (pa_cons (pv 10) pa_nil)) (nomark _)))))
   (pss_one (ps_ret pe_bl))
   pss_nil)
  (pss_cons (ps_if (pt_cmpR (op_neD hr.units) (pe_lc (own := [("_law_window", 11)]) (g := (gName 11))  rfl scl_right.nd (pi_list (pv 10)) (blkOk_by (N := ["_law_spring_here", "_law_cycle_here", "_law_begin", "_law_rows_here", "_law_table", "_law_start", "_law_by_here", "_law_one", "_law_row", "_law_passage", "_law_told", "_law_window", "_law_sets"]) (sc := defScope s_l_right) (by decide +kernel)) (fun _ _ _ _ _ => (pg_name (i := 11) scl_right.nd rfl (Or.inl rfl))) (fun _ _ _ _ _ => pts_one (pt_not (pt_chain op_le op_lt pe_int (pe_ix (r := rIxT K) (by exact ix_tup) (pv 11) pe_int (fun _ _ => rfl)) (pv 1)))) (fun _ _ _ _ _ => (pv 11))) (pe_lst pa_nil) (nomark _))
   (pss_one (ps_ret pe_bl))
   pss_nil)
  (pss_cons (ps_set (i := 12) scl_right.nd rfl (Or.inl rfl) (pe_call Gl_greatest (hr.mono (by decide)) (by rfl) Dl_greatest.g Dl_greatest.F.kp Dl_greatest.b .nil pass0 (pa_cons (pe_call Gl_able (hr.mono (by decide)) (by rfl) Dl_able.g Dl_able.F.kp Dl_able.b .nil pass0 (pa_cons (pv 1) (pa_cons (pv 4) pa_nil))) pa_nil)))
  (pss_cons (ps_if (pt_cmpR op_ne (pe_callB call_len_seq (by rfl) B.len PySem.boot_len (pa_cons (pv 10) pa_nil)) (pe_call Gl_fewest (hr.mono (by decide)) (by rfl) Dl_fewest.g Dl_fewest.F.kp Dl_fewest.b .nil pass0 (pa_cons (pv 12) (pa_cons (pe_listRg rfl (by rfl) B.n_list (prg_1 (by rfl) B.range (pv 1))) pa_nil))) (nomark _))
   (pss_one (ps_ret pe_bl))
   pss_nil)
  (pss_cons (ps_expr (pe_bm PySem.F.plainAttrs_list PySem.F.slot_list_append PySem.F.type_list_append mt_append (pv 10) (pa_cons pe_non pa_nil)))
  (pss_one (ps_ret (pe_cmpR op_eq (pe_callB call_len_seq (by rfl) B.len PySem.boot_len (pa_cons (pe_call Gfewest_windows (hr.mono (by decide)) (by rfl) Dfewest_windows.g Dfewest_windows.F.kp Dfewest_windows.b .nil pass0 (pa_cons (pv 9) pa_nil)) pa_nil)) (pe_op op_sub (pe_callB call_len_seq (by rfl) B.len PySem.boot_len (pa_cons (pv 10) pa_nil)) pe_int) (nomark _)))))))))))))))), ?_⟩)
  · obtain ⟨p, n, c, rfl, _⟩ := h; rfl
  · obtain ⟨p, n, c, rfl, hP, hn, c1, c6, q⟩ := h
    have three : 3 ≤ sizeLine := by decide
    have one : 1 ≤ sizeLine := by decide
    have z : (100 : Int) ≤ 10 ^ 30 ∧ (100 : Int) ≤ 10 ^ 100 ∧ (100 : Int) ≤ 10 ^ 41 ∧ (10 : Int) ^ 42 ≤ 10 ^ 43 ∧ (100 : Int) ≤ 10 ^ 250 ∧ 100 * (10 : Int) ^ 42 ≤ 10 ^ 44 ∧ (10 : Int) ^ 44 ≤ 10 ^ 200 ∧ (10 : Int) ^ 44 + 10 ^ 44 ≤ 10 ^ 50 ∧ (100 : Int) ≤ 10 ^ 42 := by decide +kernel
    refine ⟨_, rfl, _, rfl, p, c, n, rfl, hP, by omega, c1, by omega, fun r1 H1 b1 pd1 r10 r11 => ?_⟩
    show gName 2 (V.int r1) [some (.ref p), some (.int c), none, none, none, none, none, none, none, none, none, none, none] H1 _
    refine ⟨_, rfl, _, rfl, _, rfl, p, 3, _, rfl, pd1, by omega, by decide, by omega, fun r2 H2 b2 pd2 r20 r21 => ⟨_, _, rfl, rfl, ?_⟩⟩
    refine ⟨_, rfl, _, rfl, _, rfl, p, 9, _, rfl, pd2, by omega, by decide, by omega, fun r3 H3 b3 pd3 r30 r31 => ⟨_, _, rfl, rfl, ?_⟩⟩
    obtain ⟨k, rfl⟩ := Int.eq_ofNat_of_zero_le r20
    refine ⟨p, _, c, 1 + k, r1, r1 + r3, by push_cast; rfl, pd3, by omega, c1, by omega, by omega, by omega, by omega, by omega, by omega, by omega, fun L rs H4 nL b4 pd4 hR ok br len => ?_⟩
    have b14 := b1.trans (b2.trans (b3.trans b4))
    show gName 3 (V.ref L) [some (.ref p), some (.int c), some (.int r1), none, none, none, none, none, none, none, none, none, none] H4 _
    refine ⟨_, rfl, c, rfl, by omega, by omega, fun D hD => ?_⟩
    refine lc_range (lo := 0) (n := c.toNat) (fun i H' => Same H4 H' ∧ H' D = some (.lst (((List.range i).map fun k : Nat => Pm.F c rs (k : Int)).map V.int))) ⟨Same.new hD, upd_same⟩ ?_ ?_
    · rintro i H5 hi ⟨s5, eD⟩
      refine ⟨rfl, _, rfl, _, rfl, _, rfl, c, 0 + (i : Int), L, rs, rfl, hR.mono s5, ok, by omega, (fun r hr => by have := br r hr; omega), by omega, by omega, fun H6 s6 => ?_⟩
      refine ⟨_, s6 _ _ eD, by simp only [List.length_map, List.length_range]; exact smallL (by omega), same_upd (s5.trans s6) hD, ?_⟩
      rw [upd_same, List.range_succ, List.map_append, List.map_append, Int.zero_add]; rfl
    rintro H5 ⟨s5, eD⟩
    obtain ⟨t0, ht0⟩ : ∃ t0 : List Int, t0 = (List.range c.toNat).map fun k : Nat => Pm.F c rs (k : Int) := ⟨_, rfl⟩
    rw [← ht0] at eD
    have lt0 : t0.length = c.toNat := by rw [ht0]; simp
    have tat : ∀ i : Nat, i < c.toNat → t0[i]? = some (Pm.F c rs (i : Int)) := fun i hi => by rw [ht0, List.getElem?_map, List.getElem?_range hi]; rfl
    show gName 4 (V.ref D) [some (.ref p), some (.int c), some (.int r1), some (.ref L), none, none, none, none, none, none, none, none, none] H5 _
    refine ⟨one, fun Z0 hZ0 => ?_⟩
    have sZ := Same.new hZ0 (o := .lst [.int 0])
    have eZ : (upd H5 Z0 (.lst [V.int 0])) Z0 = some (.lst [.int 0]) := upd_same
    generalize upd H5 Z0 (.lst [V.int 0]) = H6 at sZ eZ ⊢
    have eD6 := sZ _ _ eD
    refine ⟨_, rfl, D, _, rfl, SqL.of eD6, fun V0 hV0 => ?_⟩
    refine lc_it (walk_enum (xs := t0.map V.int)) (fun i H' => Same H6 H' ∧ H' V0 = some (.lst (((List.range i).map fun k : Nat => (k : Int) - Pm.F c rs (k : Int)).map V.int))) ⟨Same.new hV0, upd_same⟩ (fun i H' _ ⟨s1, _⟩ => SqL.of (s1 _ _ eD6)) ?_ ?_
    · rintro i x H7 H8 hi ⟨s7, e7⟩ ⟨T, u, v, rfl, hT, rfl, hu, hv⟩
      cases hu
      rw [List.length_map, lt0] at hi
      replace hv : (t0.map V.int)[i]? = some v := hv
      rw [List.getElem?_map, tat i hi] at hv
      obtain rfl := Option.some.inj hv
      have nT : V0 ≠ T := fun e => by rw [← e, e7] at hT; cases hT
      refine ⟨T, _, rfl, SqT.of upd_same, rfl, _, _, rfl, _, _, rfl, rfl, rfl, ?_⟩
      refine ⟨_, rfl, _, rfl, _, _, rfl, rfl, ?_⟩
      refine ⟨_, by rw [upd_ne nT]; exact e7, by rw [List.length_map, List.length_map, List.length_range]; exact smallL (by omega), same_upd (s7.trans (Same.new hT)) hV0, ?_⟩
      rw [upd_same, List.range_succ, List.map_append, List.map_append]; rfl
    rintro H7 ⟨s7, eV⟩
    rw [List.length_map, lt0] at eV
    refine ⟨Z0, V0, _, _, rfl, rfl, s7 _ _ eZ, eV, by simp only [List.length_map, List.length_range, List.length_cons, List.length_nil]; exact Nat.le_of_lt (smallL (by omega)), fun C0 hC0 => ?_⟩
    have sC := Same.new hC0 (o := .lst ([V.int 0] ++ ((List.range c.toNat).map fun k : Nat => (k : Int) - Pm.F c rs (k : Int)).map V.int))
    refine ⟨C0, 0 :: ((List.range c.toNat).map fun k : Nat => (k : Int) - Pm.F c rs (k : Int)), rfl, SqL.of upd_same, by simp, fun bb hm hle => ?_⟩
    have s48 := s5.trans (sZ.trans (s7.trans sC))
    have s68 := s7.trans sC
    generalize upd H7 C0 (.lst ([V.int 0] ++ ((List.range c.toNat).map fun k : Nat => (k : Int) - Pm.F c rs (k : Int)).map V.int)) = H8 at sC s48 s68 ⊢
    have mo := ok.mono
    have b0 : 0 ≤ bb := hle 0 (by simp)
    have bge : ∀ k : Nat, (k : Int) < c → (k : Int) - Pm.F c rs (k : Int) ≤ bb := fun k hk => hle _ (List.mem_cons_of_mem _ (List.mem_map.mpr ⟨k, List.mem_range.mpr (by omega), rfl⟩))
    have lowF : ∀ x, x - Pm.F c rs x ≤ 2 * 10 ^ 42 := fun x => by
      obtain ⟨s, s1, s2, s3⟩ := next_ls mo x
      obtain ⟨y, hy⟩ := (F_grows ok s).mpr s2
      have ey := F_last ok hy
      obtain ⟨u, hu, k, k1, k2, rfl⟩ := hy
      have := br u hu
      omega
    have bbb : bb ≤ 2 * 10 ^ 42 := by
      rcases List.mem_cons.mp hm with e | e
      · rw [e]; decide +kernel
      · obtain ⟨k, _, e⟩ := List.mem_map.mp e
        have := lowF (k : Int)
        omega
    show gName 6 (V.int bb) [some (.ref p), some (.int c), some (.int r1), some (.ref L), some (.ref D), none, none, none, none, none, none, none, none] H8 _
    obtain ⟨ys, hL8, hY8⟩ := hR.mono s48
    have ly := paired_len hY8
    refine ⟨_, rfl, L, rfl, ⟨_, SqL.of hL8⟩, fun G hG => ?_⟩
    have eD8 := s68 _ _ eD6
    refine lc_list (xs := ys) (fun i H' => Same H8 H' ∧ ∃ ac, H' G = some (.lst ac) ∧ Paired (RnAt H') ac ((rs.take i).map (later bb))) ⟨Same.new hG, [], upd_same, .nil⟩ (fun i H' _ ⟨s, _⟩ => SqL.of (s _ _ hL8)) ?_ ?_
    · rintro i x H9 hx ⟨s9, ac, eG, hA⟩
      obtain ⟨⟨f, l, a⟩, hg, b, rfl, hb⟩ := paired_at hY8 hx
      have hi := (List.getElem?_eq_some_iff.mp hx).1
      have la := paired_len hA
      rw [List.length_map, List.length_take] at la
      have hb9 := s9 _ _ hb
      refine ⟨rfl, ?_⟩
      refine ⟨_, rfl, b, _, _, _, rfl, rfl, SqT.of hb9, atI_nat (j := 0) rfl, _, rfl, b, _, _, _, rfl, rfl, SqT.of hb9, atI_nat (j := 1) rfl, _, rfl, b, _, _, _, rfl, rfl, SqT.of hb9, atI_nat (j := 2) rfl, _, rfl, _, _, rfl, rfl, three, fun T hT => ?_⟩
      have sT := Same.new hT (o := .tup [.int f, .int l, .int (a + bb)])
      have eGT := sT _ _ eG
      refine ⟨ac, eGT, smallL (by omega), same_upd (s9.trans sT) hG, ac ++ [.ref T], upd_same, ?_⟩
      rw [List.take_add_one, hg, List.map_append]
      refine paired_snoc (rns_updL eGT (rns_mono sT hA)) ⟨T, rfl, ?_⟩
      rw [upd_ne (fun e => by rw [e, eG] at hT; cases hT)]; exact upd_same
    rintro H9 ⟨s9, acg, eG, hAg⟩
    rw [List.take_of_length_le (by omega)] at hAg
    have eD9 := s9 _ _ eD8
    show gName 3 (V.ref G) [some (.ref p), some (.int c), some (.int r1), some (.ref L), some (.ref D), none, some (.int bb), none, none, none, none, none, none] H9 _
    refine ⟨_, rfl, D, rfl, ⟨_, SqL.of eD9⟩, fun T4 hT4 => ?_⟩
    refine lc_list (xs := t0.map V.int) (fun i H' => Same H9 H' ∧ H' T4 = some (.lst (((t0.take i).map (· + bb)).map V.int))) ⟨Same.new hT4, upd_same⟩ (fun i H' _ ⟨s, _⟩ => SqL.of (s _ _ eD9)) ?_ ?_
    · rintro i x Ha hx ⟨sa, eT⟩
      rw [List.getElem?_map] at hx
      cases hv : t0[i]? with
      | none => rw [hv] at hx; cases hx
      | some v =>
        rw [hv] at hx
        obtain rfl := Option.some.inj hx
        have hi := (List.getElem?_eq_some_iff.mp hv).1
        refine ⟨rfl, _, rfl, _, rfl, _, _, rfl, rfl, ?_⟩
        refine ⟨_, eT, by simp only [List.length_map, List.length_take]; exact smallL (by omega), same_upd sa hT4, ?_⟩
        rw [upd_same, List.take_add_one, hv, List.map_append, List.map_append]; rfl
    rintro Ha ⟨sa, eT⟩
    rw [List.length_map, List.take_of_length_le (Nat.le_refl _)] at eT
    have eGa := sa _ _ eG
    have hAa := rns_mono sa hAg
    have ok' := ok_later bb ok
    have FL : ∀ x, Pm.F c (rs.map (later bb)) x = Pm.F c rs x + bb := F_later ok
    have mo' := ok'.mono
    have nnA : ∀ s, 0 ≤ Dn (Pm.F c (rs.map (later bb))) s := fun s => by
      have q0 := Int.emod_nonneg s (show c ≠ 0 by omega)
      have q1 := Int.emod_lt_of_pos s (show 0 < c by omega)
      have em := Int.emod_add_mul_ediv s c
      rw [Int.mul_comm] at em
      have dp := dn_per mo' (s % c) (s / c)
      rw [em] at dp
      rw [dp]
      obtain ⟨n', hn'⟩ := Int.eq_ofNat_of_zero_le q0
      rw [hn']
      have := bge n' (by omega)
      unfold Dn
      rw [FL]
      omega
    have nnr : ∀ r ∈ rs.map (later bb), r.1 ≤ r.2.2 := fun r hr => by
      have := nn_back ok' (fun s _ => nnA s) r hr
      omega
    have br' : BR (10 ^ 44) (rs.map (later bb)) := fun r hr => by
      obtain ⟨u, hu, rfl⟩ := List.mem_map.mp hr
      have := br u hu
      unfold later
      simp only []
      omega
    refine ⟨_, rfl, _, rfl, G, _, rfl, .inl ⟨SqL.of eGa, fun l hl => ?_⟩⟩
    intro x dx hx hdx nx
    have sl := Same.new hl (o := .tup acg)
    have sM := same_make (C := C) hx hdx
    refine ⟨x, dx, l, c, 10 ^ 44, rs.map (later bb), rfl, upd_same, ⟨acg, sM _ _ upd_same, rns_mono (sl.trans sM) hAa⟩, ok', by omega, by rw [List.length_map]; omega, br', by omega, fun Hb Z kp PZ gZ lz => ⟨rfl, _, _, rfl, ?_⟩⟩
    have sb : Same Ha Hb := made hx (sl.trans sM) sl kp
    rw [List.length_map] at lz
    have FZ : Pm.F c (rs.map (later bb)) = Pm.F c Z := F_cong gZ
    have nnZ : ∀ s, Ls (Pm.F c Z) s → 0 ≤ Dn (Pm.F c Z) s := by rw [← FZ]; exact fun s _ => nnA s
    have eTb := sb _ _ eT
    show (_ : Ends).nx [some (.ref p), some (.int c), some (.int r1), some (.ref G), some (.ref T4), none, some (.int bb), none, none, some (.ref x), none, none, none] Hb
    refine ⟨_, rfl, x, c, _, Z, rfl, PZ, by omega, nn_back PZ.can.1 nnZ, fun Lt Hc ws frt sc hW few cov lw => ?_⟩
    show gName 10 (V.ref Lt) [some (.ref p), some (.int c), some (.int r1), some (.ref G), some (.ref T4), none, some (.int bb), none, none, some (.ref x), none, none, none] Hc _
    have fewr := few
    have covr := cov
    rw [← FZ] at fewr covr
    have gw := few_good ok' nnr fewr (M := 10 ^ 50) fun r hr => by have := br' r hr; omega
    obtain ⟨xt, hxt, hXt⟩ := hW
    have lxt := paired_len hXt
    refine ⟨_, rfl, _, rfl, Lt, c, 10 ^ 50, xt, ws, rfl, hxt, hXt, cov_ne PZ.can.1.mono cov, by omega, c1, by omega, by omega, Int.le_refl _, gw, fun p3 Hd Z3 sd PZ3 mn3 lz3 => ?_⟩
    have Pd := PZ.mono (sc.trans sd)
    obtain ⟨dy, bq, hO1, _⟩ := Pd.ob
    obtain ⟨dz, bc, hO2, _⟩ := PZ3.ob
    have eZ : Z3 = Z := from_eq PZ.can PZ3.can nnZ few cov mn3
    subst eZ
    refine ⟨_, rfl, ⟨p3, x, _, _, _, _, rfl, rfl, hO2, hO1, c, _, _, Z3, PZ3, Pd⟩, fun He se => ⟨false, rfl, iteF ?_⟩⟩
    have hxe := (sd.trans se) _ _ hxt
    have hXe := rns_mono (sd.trans se) hXt
    refine ⟨_, rfl, _, rfl, ?_⟩
    unfold tNil
    refine sortRn hxe hXe fun pz Hf ws' _ sf hws pm lx => ?_
    obtain ⟨g, top, gat, lxw, nd, mem⟩ := id fewr
    obtain rfl : ws' = ws := sorted_eq (fun a b h1 h2 => lex_eq h1 h2) (pm.nodup_iff.mpr nd) nd (fun w => pm.mem_iff) lx lxw
    obtain ⟨xz, hxz, hXz⟩ := hws
    have sef := sf
    have hxf := sf _ _ hxe
    have hXf := rns_mono sf hXe
    refine ⟨.list (ws'.map tripW), .list (ws'.map tripW), .lst (SqL.of hxf) (dp_tripW hXf), .lst (SqL.of hxz) (dp_tripW hXz), shaped_tripW _, shaped_tripW _, false, congrArg V.bl (by rw [eqv_tripL]; rfl), iteF ?_⟩
    refine ⟨_, rfl, Lt, rfl, ⟨_, SqL.of hxf⟩, fun G2 hG2 => ?_⟩
    refine lc_list (xs := xt) (fun i H' => Same Hf H' ∧ H' G2 = some (.lst [])) ⟨Same.new hG2, upd_same⟩ (fun i H' _ ⟨s, _⟩ => SqL.of (s _ _ hxf)) ?_ ?_
    · rintro i y Hg hy ⟨sg, eG2⟩
      obtain ⟨r, hg, b, rfl, hb⟩ := paired_at hXf hy
      have good := (gw r (List.mem_of_getElem? hg)).1
      refine ⟨rfl, ?_⟩
      refine ⟨_, rfl, b, _, _, _, rfl, rfl, SqT.of (sg _ _ hb), atI_nat (j := 0) rfl, _, _, rfl, rfl, true, congrArg V.bl (decide_eq_true good.1), iteT ?_⟩
      refine ⟨_, rfl, _, _, rfl, rfl, true, congrArg V.bl (decide_eq_true good.2.1), ?_⟩
      refine iteF ?_
      exact ⟨sg, eG2⟩
    rintro Hg ⟨sg, eG2⟩
    refine ⟨Nat.zero_le _, fun T5 hT5 => ?_⟩
    have t5 := Same.new hT5 (o := .lst [])
    refine ⟨.list [], .list [], .lst (SqL.of (t5 _ _ eG2)) .nil, .lst (SqL.of upd_same) .nil, shaped_nil, shaped_nil, false, by decide +kernel, iteF ?_⟩
    generalize upd Hg T5 (.lst []) = Hh at t5 ⊢
    have sbh := sc.trans (sd.trans (se.trans (sf.trans (sg.trans t5))))
    have tab : TabL c (Pm.F c (rs.map (later bb))) Hh T4 := ⟨_, sbh _ _ eTb, by rw [List.length_map, lt0]; omega, fun i hi => by
      rw [List.length_map, lt0] at hi
      rw [List.getElem?_map, tat i hi, FL]; rfl⟩
    refine ⟨_, rfl, _, rfl, T4, c, _, rfl, tab, mo', c6, nnA, fun Ls1 Hi S si hSt sets lS => ?_⟩
    have h6 : ∀ C ∈ S, C.length ≤ 6 ∧ C.Pairwise (· < ·) := fun C hC => by
      obtain ⟨w, _, rfl⟩ := sets.one C hC
      exact ⟨met_len c6, met_pw⟩
    refine ⟨Ls1, S, rfl, hSt, lS, h6, fun Lr Hj R sj hRt q1 q2 lR => ?_⟩
    show gName 12 (V.ref Lr) [some (.ref p), some (.int c), some (.int r1), some (.ref G), some (.ref T4), none, some (.int bb), none, none, some (.ref x), some (.ref Lt), none, none] Hj _
    have shj := t5.trans (si.trans sj)
    have hxj := (sg.trans shj) _ _ hxf
    refine ⟨_, rfl, Lt, _, rfl, .inl (SqL.of hxj), _, rfl, _, rfl, c, rfl, RgOk.of_le (Int.le_refl _) (by omega) (by omega) (by omega), fun Lq hLq => ?_⟩
    have sq := Same.new hLq (o := .lst (rgV 0 c))
    obtain ⟨L0, hL0⟩ : ∃ L0 : List Int, L0 = (List.range (c - 0).toNat).map fun i : Nat => (0 : Int) + (i : Nat) := ⟨_, rfl⟩
    have rg0 : rgV 0 c = L0.map V.int := by rw [hL0]; unfold rgV; rw [List.map_map]; rfl
    have memL : ∀ y, y ∈ L0 ↔ 0 ≤ y ∧ y < c := fun y => by
      rw [hL0, List.mem_map]
      constructor
      · rintro ⟨n', hn', rfl⟩
        rw [List.mem_range] at hn'
        omega
      · rintro ⟨a, b⟩
        exact ⟨y.toNat, List.mem_range.mpr (by omega), by omega⟩
    have eLq : (upd Hj Lq (.lst (rgV 0 c))) Lq = some (.lst (L0.map V.int)) := by rw [upd_same, rg0]
    obtain ⟨mc, cvR⟩ := cover_few mo' (fun s _ => nnA s) fewr covr memL sets q1 q2
    obtain ⟨xr, hxr, hXr⟩ := hRt
    refine ⟨Lr, Lq, R, L0, rfl, ⟨xr, sq _ _ hxr, L2.Paired.mapP hXr fun _ _ ⟨a, e, h⟩ => ⟨a, e, sq _ _ h⟩⟩, eLq, by rw [hL0]; simp; omega, by omega, lR, fun A hA => (h6 A (q1 A hA)).1, cvR, fun Hk v sk mv => ⟨rfl, false, ?_, iteF ?_⟩⟩
    · have := mv.uniq mc
      rw [this, lxt]
      exact congrArg V.bl (by simp)
    have hxk := (sq.trans sk) _ _ hxj
    have sjk := sq.trans sk
    refine ⟨_, rfl, .inl ⟨rfl, _, SqL.of hxk⟩, Lt, xt, _, rfl, rfl, hxk, smallL (by omega), ?_⟩
    have shk := shj.trans sjk
    have sbk := sc.trans (sd.trans (se.trans (sf.trans (sg.trans shk))))
    have Pk : PasAt C (upd Hk Lt (.lst (xt ++ [.non]))) x c _ Z3 := (PZ.mono sbk).but (q := Lt) (fun q o n e => by rw [upd_ne n]; exact e) hxk
    refine ⟨_, rfl, x, c, _, Z3, rfl, Pk, by omega, nn_back PZ.can.1 nnZ, fun L5 Hm ws5 _ sm hW5 few5 cov5 _ => ?_⟩
    obtain rfl : ws5 = ws' := few5.uniq few
    obtain ⟨x5, hx5, hX5⟩ := hW5
    have l5 := paired_len hX5
    refine ⟨L5, x5, rfl, .inl (SqL.of hx5), _, rfl, Lt, xt ++ [.non], rfl, .inl (SqL.of (sm _ _ upd_same)), _, _, rfl, rfl, rfl, ?_⟩
    have s4b := s48.trans (s9.trans (sa.trans sb))
    have fr4 := none_by s4b frt
    have e1 : decide (V.int (x5.length : Nat) = V.int (((xt ++ [V.non]).length : Nat) - 1)) = true := decide_eq_true (congrArg V.int (by rw [List.length_append, l5, lxt]; simp))
    show Q (.bl (decide (V.int (x5.length : Nat) = V.int (((xt ++ [V.non]).length : Nat) - 1)))) Hm
    rw [e1]
    have keep : ∀ u o, H4 u = some o → Hm u = some o := fun u o e => sm _ _ (by rw [upd_ne (ne_of_none e fr4)]; exact (s4b.trans sbk) _ _ e)
    exact q Hm (b14.trans fun u o _ e => keep u o e) ((pd4.same fun u o e => keep u o e).mono (by omega))
end
end Gr

set_option Elab.async false
set_option linter.all false
set_option pp.deepTerms false
set_option pp.maxSteps 3000
set_option maxRecDepth 100000
set_option maxHeartbeats 8000000
set_option exponentiation.threshold 3000
namespace Gr
open PySem PySem.Spec PyProof.Rows L2
open Pm (Rn)
open Few
theorem But.same2 {p : Addr} {H H1 H2 : Hp} (b : But p H1 H2) (s : Same H H1) (hp : H p = none) : Same H H2 := fun q o e => b q o (ne_of_none e hp) (s q o e)
def spLaw (K : PySem.W.Frag) : Sp := fun vs H Q _ => ∃ (a : Addr) (ns : List Int), vs = [.ref a] ∧ SqL K H a (ns.map V.int) ∧ ns.length ≤ 63 ∧ ∀ H', Q (.bl true) H'
/-! ### arrivals of written rows -/
def evW (c : Int) (rs : List Rn) (x : Int) : Int := match (walk c rs).find? (fun w => decide (x ≤ w.2.1)) with | some w => Pm.stepF w x | none => 0
def evA (c : Int) (rs : List Rn) (x : Int) : Int := evW c rs (x % c) + x / c * c
theorem F_ev {c : Int} {rs : List Rn} (can : Pm.Can c rs) (x : Int) : Pm.F c rs x = evA c rs x := by
  have c1 := can.1.c1
  have r0 := Int.emod_nonneg x (show c ≠ 0 by omega)
  have r1 := Int.emod_lt_of_pos x (show 0 < c by omega)
  have e := Int.emod_add_mul_ediv x c
  rw [Int.mul_comm c] at e
  have em := can.1.F_move (x % c) (x / c)
  rw [e] at em
  rw [em]
  unfold evA
  congr 1
  unfold evW
  cases h : (walk c rs).find? (fun w => decide (x % c ≤ w.2.1)) with
  | none =>
    have hl : (walk c rs)[rs.length + 1]? = some ((walk c rs)[rs.length + 1]'(by rw [walk_len]; omega)) := List.getElem?_eq_getElem _
    have := walk_last can r1 hl
    exact absurd (decide_eq_true this) (List.find?_eq_none.mp h _ (List.getElem_mem _))
  | some w =>
    obtain ⟨hw, as, bs, hl, ha⟩ := List.find?_eq_some_iff_append.mp h
    have lw := of_decide_eq_true hw
    refine walk_at (j := as.length) can r0 r1 (by rw [hl, List.getElem?_append_right (Nat.le_refl _), Nat.sub_self]; rfl) (fun i hi v hv => ?_) lw
    rw [hl, List.getElem?_append_left hi] at hv
    have := ha v (List.mem_of_getElem? hv)
    simpa using this
theorem eq_all {c : Nat} {A B : Int → Int} (mA : Pm.Mono (c : Int) A) (mB : Pm.Mono (c : Int) B) (h : ∀ k : Nat, k < c → A (k : Int) = B (k : Int)) (t : Int) : A t = B t := by
  have c1 := mA.c1
  have r0 := Int.emod_nonneg t (show (c : Int) ≠ 0 by omega)
  have r1 := Int.emod_lt_of_pos t (show (0 : Int) < (c : Int) by omega)
  have e := Int.emod_add_mul_ediv t (c : Int)
  rw [Int.mul_comm (c : Int)] at e
  rw [← e, mA.per, mB.per]
  obtain ⟨k, hk⟩ := Int.eq_ofNat_of_zero_le r0
  rw [hk] at r1 ⊢
  rw [h k (by omega)]
theorem ok_dec {c : Int} {rs : List Rn} (h : 1 ≤ c ∧ rs ≠ [] ∧ (∀ r ∈ rs, r.1 ≤ r.2.1) ∧ rs.Pairwise (fun b r => b.2.1 < r.1 ∧ Pm.la b < r.2.2) ∧ ∀ a ∈ rs, ∀ b ∈ rs, a.2.1 - c < b.1 ∧ Pm.la a - c < b.2.2) : Pm.Ok c rs := by
  obtain ⟨h1, h2, h3, h4, h5⟩ := h
  refine ⟨h1, h2, h3, h4, fun a ha b hb => ?_⟩
  have := h5 a ha b hb
  unfold Pm.GoesOn
  simp only [Pm.mv2, Pm.la_mv]
  omega
theorem can_dec {c : Int} {a : Rn} {q : List Rn} (ok : Pm.Ok c (a :: q)) (n : Pm.NJ (a :: q)) (rg : ∀ r ∈ a :: q, 0 ≤ r.1 ∧ r.1 < c) (w : ∀ l, (a :: q).getLast? = some l → ¬ (l.2.1 + 1 = a.1 + c ∧ Pm.la l + 1 = a.2.2 + c)) : Pm.Can c (a :: q) := by
  refine ⟨ok, .inr ⟨rg, Pm.nojoin ok n fun a' q' l e hl => ?_⟩⟩
  cases e
  have := w l hl
  unfold Pm.Joins
  simp only [Pm.mv1, Pm.mv3]
  exact this
theorem can_one : Pm.Can 10 [(2, 3, 5)] := can_dec (ok_dec (by decide)) trivial (by decide) (fun l hl => by cases hl; decide)
theorem few_one : FewL 10 (Pm.F 10 [(2, 3, 5)]) [(2, 3, 3)] := by
  obtain ⟨F, hF⟩ : ∃ F, F = Pm.F 10 [(2, 3, 5)] := ⟨_, rfl⟩
  have mo : Pm.Mono 10 F := by rw [hF]; exact can_one.1.mono
  have ev : ∀ x, F x = evA 10 [(2, 3, 5)] x := fun x => by rw [hF]; exact F_ev can_one x
  rw [← hF]
  have rng : ∀ x : Int, 0 ≤ x % 10 ∧ x % 10 < 10 := fun x => ⟨Int.emod_nonneg x (by decide), Int.emod_lt_of_pos x (by decide)⟩
  have dnm : ∀ x, Dn F (x % 10) = Dn F x := fun x => by
    have e := Int.emod_add_mul_ediv x 10
    have := dn_per mo (x % 10) (x / 10)
    rw [show x % 10 + x / 10 * 10 = x by omega] at this
    exact this.symm
  have lsm : ∀ x, Ls F (x % 10) ↔ Ls F x := fun x => by
    have e := Int.emod_add_mul_ediv x 10
    have := ls_per mo (x % 10) (x / 10)
    rw [show x % 10 + x / 10 * 10 = x by omega] at this
    exact this.symm
  have T : ∀ k : Int, 0 ≤ k → k < 10 → Dn F k ≤ 11 ∧ (2 ≤ k → k ≤ 3 → Dn F k = 3 ∧ Ls F k) ∧ (k < 2 ∨ 3 < k → 3 < Dn F k ∧ ¬ Ls F k) := fun k k0 k1 => by
    unfold Dn Ls
    rw [ev, ev]
    obtain ⟨n, rfl⟩ := Int.eq_ofNat_of_zero_le k0
    match n, k1 with
    | 0, _ => decide
    | 1, _ => decide
    | 2, _ => decide
    | 3, _ => decide
    | 4, _ => decide
    | 5, _ => decide
    | 6, _ => decide
    | 7, _ => decide
    | 8, _ => decide
    | 9, _ => decide
    | _ + 10, h => omega
  have T1 : ∀ x : Int, 2 ≤ x % 10 → x % 10 ≤ 3 → Dn F x = 3 ∧ Ls F x := fun x h h2 => by
    have := (T (x % 10) (rng x).1 (rng x).2).2.1 h h2
    rw [dnm, lsm] at this; exact this
  have T2 : ∀ x : Int, x % 10 < 2 ∨ 3 < x % 10 → 3 < Dn F x ∧ ¬ Ls F x := fun x h => by
    have := (T (x % 10) (rng x).1 (rng x).2).2.2 h
    rw [dnm, lsm] at this; exact this
  have no3 : ∀ x : Int, x % 10 < 2 ∨ 3 < x % 10 → ¬ Sd F 3 x := fun x h z => (T2 x h).2 z.1
  have is3 : ∀ (x d : Int), Sd F d x → 2 ≤ x % 10 ∧ x % 10 ≤ 3 ∧ d = 3 := fun x d z => by
    by_cases k : x % 10 < 2 ∨ 3 < x % 10
    · exact absurd z.1 (T2 x k).2
    · have := T1 x (by omega) (by omega)
      have := z.2
      omega
  have e4 : Dn F 4 = 11 := by unfold Dn; rw [ev]; decide
  refine ⟨11, fun x => ?_, ⟨4, e4⟩, List.pairwise_singleton _ _, by decide, fun w => ?_⟩
  · have := (T (x % 10) (rng x).1 (rng x).2).1
    rw [dnm] at this; exact this
  · rw [List.mem_singleton]
    constructor
    · rintro rfl
      have a0 := T1 2 (by decide) (by decide)
      have a1 := T1 3 (by decide) (by decide)
      refine .inr ⟨by decide, by decide, 4, ⟨a0.2, a0.1⟩, ⟨a1.2, a1.1⟩, by decide, fun x p q => ?_, ⟨1, by decide, (T2 1 (by decide)).1, fun s p q => ?_⟩, ⟨4, by decide, by decide, (T2 4 (by decide)).1, fun s p q => ?_⟩⟩
      · simp only [] at p q
        have := T1 x (by omega) (by omega)
        show Dn F x ≤ 3
        omega
      · simp only [] at q
        exact no3 s (by omega)
      · simp only [] at p
        exact no3 s (by omega)
    · rintro (⟨rfl, s, hs⟩ | ⟨w0, wc, e, h⟩)
      · have := is3 s 11 hs; omega
      · obtain ⟨a, b, d⟩ := w
        obtain ⟨x, x1, x2, x3⟩ := h.lf
        obtain ⟨y, y1, y2, y3, y4⟩ := h.rt
        have ha := h.ha
        have hl := h.hl
        have le := h.le
        have hin := h.in'
        simp only [] at w0 wc x1 x2 x3 y1 y2 y3 y4 ha hl le hin
        clear h
        obtain ⟨p1, p2, rfl⟩ := is3 a d ha
        obtain ⟨q1, q2, _⟩ := is3 b 3 hl
        have a2 : a = 2 := Decidable.byContradiction fun n => by
          have h2 := T1 2 (by decide) (by decide)
          exact x3 2 (by
            refine Decidable.byContradiction fun m => ?_
            have e : x = 2 ∨ 2 < x := by omega
            omega) (by omega) ⟨h2.2, h2.1⟩
        subst a2
        have b1 : b < 4 := Decidable.byContradiction fun n => by
          have := hin 4 (by omega) (by omega)
          omega
        have b0 : b = 3 := Decidable.byContradiction fun n => by
          have h3 := T1 3 (by decide) (by decide)
          exact y4 3 (by omega) (by omega) ⟨h3.2, h3.1⟩
        rw [b0]
theorem eqRnsL {K : PySem.W.Frag} {H : Hp} {a b : Addr} {Q : VK} {rs : List Rn} (ha : RowsAt H a rs) (hb : RowsAt H b rs) (q : Q (.bl true) H) : rEqD K (.ref a) (.ref b) H Q := by
  obtain ⟨xa, ea, hA⟩ := ha
  obtain ⟨xb, eb, hB⟩ := hb
  refine ⟨_, _, .lst (SqL.of ea) (dp_tripW hA), .lst (SqL.of eb) (dp_tripW hB), shaped_tripW rs, shaped_tripW rs, ?_⟩
  rw [eqv_tripL]
  exact q
section
variable {P : Program} {w : World} {K : PySem.W.Frag} {mg : Str → Option Value} {base : Heap} {tC : Tok}
theorem ok_law {C fI fC f f1 f2 f3 f8 : Addr} {fdI fd fd1 fd2 fd3 fd8 : FuncData} (B : Blt mg tC) (TP : TxtP K mg C fI fC) (Dlaw : Def K mg "law" s_law ["_law_script"] f fd) (Dl_spring : Def K mg "_law_spring" s_l_spring ["_law_script", "_law_k"] f1 fd1) (Dl_take : Def K mg "_law_take" s_l_take ["_law_spring_here", "_law_many"] f2 fd2) (Dl_right : Def K mg "_law_right" s_l_right ["_law_spring_here", "_law_cycle_here"] f3 fd3) (Dfewest_windows : Def K mg "fewest_windows" s_fewest_windows ["passage"] f8 fd8) (DP_init : DefM K "__init__" "Passage.__init__" s_P_init ["self", "cycle", "runs"] fI fdI)
    (GP_init : FnOk P w K mg base CX0 4 fI fdI ["self", "cycle", "runs"] (spInitP C)) (Gfewest_windows : FnOk P w K mg base CX0 4 f8 fd8 ["passage"] (spFewest C)) (Gl_right : FnOk P w K mg base CX0 11 f3 fd3 ["_law_spring_here", "_law_cycle_here"] spRight) : FnG P w K mg base CX0 12 f fd ["_law_script"] (spLaw K) := by
  have Gl_take := (ok_take (P := P) (w := w) (base := base) B Dl_take)
  have Gl_spring := (ok_spring (P := P) (w := w) (base := base) B Dl_spring)
  have CO := TP.co
  refine okG Dlaw.F sclaw (fun vs H Q E h => ?_) (fun cdv A outer s H vs Q E hf hr h => ⟨_, (pss_cons (ps_for PassesOwn.never rfl (pi_range1 (by rfl) B.range (pa_cons (pe_callB (call_max2 rfl) (by rfl) B.n_max (by decide +kernel) (pa_cons pe_int (pa_cons (pe_callB (call_min2 rfl) (by rfl) B.n_min (by decide +kernel) (pa_cons pe_int (pa_cons (pe_callB call_len_seq (by rfl) B.len PySem.boot_len (pa_cons (pv 0) pa_nil)) pa_nil))) pa_nil))) pa_nil)) (pg_name (i := 1) sclaw.nd rfl (Or.inl rfl))
   (pss_cons (ps_set (i := 2) sclaw.nd rfl (Or.inl rfl) (pe_call Gl_spring (hr.mono (by decide)) (by rfl) Dl_spring.g Dl_spring.F.kp Dl_spring.b .nil pass0 (pa_cons (pv 0) (pa_cons (pv 1) pa_nil))))
  (pss_one (ps_for PassesOwn.never rfl (pi_range1 (by rfl) B.range (pa_cons (pe_ifExp (pt_cmpR op_eq (pv 1) pe_int (nomark _)) pe_int pe_int) pa_nil)) (pg_name (i := 3) sclaw.nd rfl (Or.inl rfl))
   (pss_one (ps_if (pt_not (pt_val (pe_call Gl_right (hr.mono (by decide)) (by rfl) Dl_right.g Dl_right.F.kp Dl_right.b .nil pass0 (pa_cons (pv 2) (pa_cons (pe_op op_add pe_int (pe_call Gl_take (hr.mono (by decide)) (by rfl) Dl_take.g Dl_take.F.kp Dl_take.b .nil pass0 (pa_cons (pv 2) (pa_cons pe_int pa_nil)))) pa_nil)))))
   (pss_one (ps_ret pe_bl))
   pss_nil))))))
  (pss_one (ps_ret (pe_cmpR (op_eqD hr.units) (pe_call Gfewest_windows (hr.mono (by decide)) (by rfl) Dfewest_windows.g Dfewest_windows.F.kp Dfewest_windows.b .nil pass0 (pa_cons (pe_make TP.mks GP_init (hr.mono (by decide)) (by rfl) TP.mgC DP_init.b .nil pass0 (pa_cons pe_int (pa_cons (pe_tup (pa_cons (pe_tup (pa_cons pe_int (pa_cons pe_int (pa_cons pe_int pa_nil)))) pa_nil)) pa_nil))) pa_nil)) (pe_lst (pa_cons (pe_tup (pa_cons pe_int (pa_cons pe_int (pa_cons pe_int pa_nil)))) pa_nil)) (nomark _))))), ?_⟩)
  · obtain ⟨a, ns, rfl, _⟩ := h; rfl
  · obtain ⟨a, ns, rfl, hS, hl, q⟩ := h
    have three : 3 ≤ sizeLine := by decide
    have one : 1 ≤ sizeLine := by decide
    have z : (1000 : Int) ≤ 10 ^ 30 ∧ (100 : Int) ≤ 10 ^ 100 := by decide +kernel
    refine ⟨_, rfl, a, _, rfl, .inl hS, _, _, rfl, _, _, rfl, _, rfl, ?_, ?_, ?_⟩
    · rw [List.length_map]; split <;> split <;> omega
    · rw [List.length_map]; split <;> split <;> omega
    refine for_range (lo := 0) (fun i σ H' => ∃ (y1 y2 y3 : Option V), σ = [some (.ref a), y1, y2, y3] ∧ Same H H') ⟨_, _, _, rfl, Same.refl H⟩ ?_ ?_
    · rintro k σ H0 hk ⟨y1, y2, y3, rfl, s0⟩
      have k8 : k ≤ 8 := by
        rw [List.length_map] at hk
        split at hk <;> split at hk <;> omega
      refine ⟨_, rfl, _, rfl, a, _, ns, rfl, s0.seq hS, by omega, by omega, fun p H1 hp0 s1 pd1 => ?_⟩
      refine ⟨_, rfl, rfl, _, rfl, ?_⟩
      by_cases hk0 : (0 + (k : Int)) = 0
      · refine iteY (congrArg V.int hk0) ⟨6, rfl, by decide, by decide, ?_⟩
        refine for_range (lo := 0) (fun i σ H' => ∃ (y3 : Option V), σ = [some (.ref a), some (.int (0 + (k : Int))), some (.ref p), y3] ∧ But p H1 H' ∧ Pond (20200 * i) p H') ⟨_, rfl, But.refl p H1, pd1.mono (by omega)⟩ ?_ ?_
        · rintro i σ H2 hi ⟨y3, rfl, b2, pd2⟩
          have i7 : i < 7 := by omega
          refine ⟨_, rfl, _, rfl, p, 6, _, rfl, pd2, by omega, by decide, by omega, fun r1 H3 b3 pd3 r10 r11 => ⟨_, _, rfl, rfl, ?_⟩⟩
          refine ⟨p, _, 1 + r1, rfl, pd3, by omega, by omega, by omega, fun H4 b4 pd4 => ⟨true, rfl, iteF ?_⟩⟩
          exact ⟨_, rfl, b2.trans (b3.trans b4), pd4.mono (by push_cast; omega)⟩
        · rintro σ H2 ⟨y3, rfl, b2, pd2⟩
          exact ⟨_, _, _, rfl, s0.trans (b2.same2 s1 hp0)⟩
      · refine iteN (fun e => hk0 (V.int.inj e)) ⟨3, rfl, by decide, by decide, ?_⟩
        refine for_range (lo := 0) (fun i σ H' => ∃ (y3 : Option V), σ = [some (.ref a), some (.int (0 + (k : Int))), some (.ref p), y3] ∧ But p H1 H' ∧ Pond (20200 * i) p H') ⟨_, rfl, But.refl p H1, pd1.mono (by omega)⟩ ?_ ?_
        · rintro i σ H2 hi ⟨y3, rfl, b2, pd2⟩
          have i7 : i < 7 := by omega
          refine ⟨_, rfl, _, rfl, p, 6, _, rfl, pd2, by omega, by decide, by omega, fun r1 H3 b3 pd3 r10 r11 => ⟨_, _, rfl, rfl, ?_⟩⟩
          refine ⟨p, _, 1 + r1, rfl, pd3, by omega, by omega, by omega, fun H4 b4 pd4 => ⟨true, rfl, iteF ?_⟩⟩
          exact ⟨_, rfl, b2.trans (b3.trans b4), pd4.mono (by push_cast; omega)⟩
        · rintro σ H2 ⟨y3, rfl, b2, pd2⟩
          exact ⟨_, _, _, rfl, s0.trans (b2.same2 s1 hp0)⟩
    · rintro σ H0 ⟨y1, y2, y3, rfl, s0⟩
      refine ⟨three, fun T1 hT1 => ⟨one, fun T3 hT3 => ?_⟩⟩
      intro x dx hx hdx nx
      have m1 := Same.new hT1 (o := .tup [.int 2, .int 3, .int 5])
      have m3 := Same.new hT3 (o := .tup [.ref T1])
      have sM := same_make (C := C) hx hdx
      refine ⟨x, dx, T3, 10, 100, [(2, 3, 5)], rfl, upd_same, ⟨_, sM _ _ upd_same, .cons ⟨T1, rfl, sM _ _ (m3 _ _ upd_same)⟩ .nil⟩, can_one.1, by omega, by simp, by unfold BR; simp, by decide +kernel, fun H1 Z kp PZ gZ lz => ⟨rfl, ?_⟩⟩
      have FZ : Pm.F 10 [(2, 3, 5)] = Pm.F 10 Z := F_cong gZ
      have nn : ∀ s, Ls (Pm.F 10 Z) s → 0 ≤ Dn (Pm.F 10 Z) s := by
        rw [← FZ]; exact nn_of can_one.1 (by decide)
      refine ⟨x, 10, _, Z, rfl, PZ, by simp at lz; omega, nn_back PZ.can.1 nn, fun L H2 ws _ s2 hW few cov lw => ?_⟩
      rw [← FZ] at few
      obtain rfl : ws = [(2, 3, 3)] := few.uniq few_one
      refine ⟨three, fun T4 hT4 => ⟨one, fun T6 hT6 => ?_⟩⟩
      have m4 := Same.new hT4 (o := .tup [.int 2, .int 3, .int 3])
      have m6 := Same.new hT6 (o := .lst [.ref T4])
      refine eqRnsL (hW.mono (m4.trans m6)) ⟨_, upd_same, .cons ⟨T4, rfl, m6 _ _ upd_same⟩ .nil⟩ (q _)
end
end Gr

set_option Elab.async false
set_option linter.all false
set_option maxRecDepth 100000
set_option maxHeartbeats 8000000
namespace Gr
open PySem PySem.Spec PyProof.Rows L2
theorem all_mk {l : PySem.W.OpenLaw} {w : World} {K : PySem.W.Frag} {h : Heap} {mg : Str → Option Value} {fa C : Addr} (X : K.In h) (G : h.Ns mainGlobals mg) (hfa : mg "law" = some (.ref fa))
    (aC : PySem.W.nsIn K mainGlobals "Passage" = some (some (.ref C))) (pg : PySem.W.plainGet K C Str.empty = true) (hd : PySem.W.hasDictIn K C = true) (po : PySem.W.plainOver K C = true) (sa : PySem.W.findIn K (.ref C) "__setattr__" = some (some (.builtin "object.__setattr__"))) (mi : PySem.W.makesIn K C = true) (kC : PySem.W.keepIn K (.ref C) = true)
    (nA0 : PySem.W.findIn K (.ref C) "cycle" = some none)
    (nA1 : PySem.W.findIn K (.ref C) "runs" = some none)
    (iha : PySem.W.findIn K (.ref C) "__class__" = some (some (.builtin "object.__class__")))
    (ihn : PySem.W.specialIn K (.builtin "object.__class__") "__get__" = some (some (.builtin "getset_descriptor.__get__")))
    (ihtk : PySem.W.takesIn K (.builtin "object.__class__") = some true)
    (ihm : PySem.W.mroIn K C (.type "object") = some true)
    (hsf : PySem.W.selfFirst K C = true)
    (hne1 : PySem.W.findIn K (.ref C) "__ne__" = some (some (.builtin "object.__ne__")))
    {f0 : Addr} {od0 an0 : Option Addr} {sl0 : Array (Option Value)} {oc0 kV0 dc0 pm0 cd0 ct0 : Value}
    (a0 : PySem.W.nsIn K mainGlobals "is_whole" = some (some (.ref f0))) (l0 : K.lookup f0 = some ⟨oc0, od0, .func (PySem.W.fnOf "is_whole" "is_whole" (defArgs s_is_whole) (defBody s_is_whole) (defScope s_is_whole) .none kV0 dc0 pm0 an0 cd0 ct0), sl0⟩) (c0 : PySem.W.codeIn K cd0 "is_whole" = true) (k0 : PySem.W.keepIn K (.ref f0) = true)
    {f1 : Addr} {od1 an1 : Option Addr} {sl1 : Array (Option Value)} {oc1 kV1 dc1 pm1 cd1 ct1 : Value}
    (a1 : PySem.W.nsIn K mainGlobals "check_cycle" = some (some (.ref f1))) (l1 : K.lookup f1 = some ⟨oc1, od1, .func (PySem.W.fnOf "check_cycle" "check_cycle" (defArgs s_check_cycle) (defBody s_check_cycle) (defScope s_check_cycle) .none kV1 dc1 pm1 an1 cd1 ct1), sl1⟩) (c1 : PySem.W.codeIn K cd1 "check_cycle" = true) (k1 : PySem.W.keepIn K (.ref f1) = true)
    {f2 : Addr} {od2 an2 : Option Addr} {sl2 : Array (Option Value)} {oc2 kV2 dc2 pm2 cd2 ct2 : Value}
    (a2 : PySem.W.nsIn K mainGlobals "check_moment" = some (some (.ref f2))) (l2 : K.lookup f2 = some ⟨oc2, od2, .func (PySem.W.fnOf "check_moment" "check_moment" (defArgs s_check_moment) (defBody s_check_moment) (defScope s_check_moment) .none kV2 dc2 pm2 an2 cd2 ct2), sl2⟩) (c2 : PySem.W.codeIn K cd2 "check_moment" = true) (k2 : PySem.W.keepIn K (.ref f2) = true)
    {f3 : Addr} {od3 an3 : Option Addr} {sl3 : Array (Option Value)} {oc3 kV3 dc3 pm3 cd3 ct3 : Value}
    (a3 : PySem.W.nsIn K mainGlobals "is_run" = some (some (.ref f3))) (l3 : K.lookup f3 = some ⟨oc3, od3, .func (PySem.W.fnOf "is_run" "is_run" (defArgs s_is_run) (defBody s_is_run) (defScope s_is_run) .none kV3 dc3 pm3 an3 cd3 ct3), sl3⟩) (c3 : PySem.W.codeIn K cd3 "is_run" = true) (k3 : PySem.W.keepIn K (.ref f3) = true)
    {f4 : Addr} {od4 an4 : Option Addr} {sl4 : Array (Option Value)} {oc4 kV4 dc4 pm4 cd4 ct4 : Value}
    (a4 : PySem.W.nsIn K mainGlobals "are_runs" = some (some (.ref f4))) (l4 : K.lookup f4 = some ⟨oc4, od4, .func (PySem.W.fnOf "are_runs" "are_runs" (defArgs s_are_runs) (defBody s_are_runs) (defScope s_are_runs) .none kV4 dc4 pm4 an4 cd4 ct4), sl4⟩) (c4 : PySem.W.codeIn K cd4 "are_runs" = true) (k4 : PySem.W.keepIn K (.ref f4) = true)
    {f5 : Addr} {od5 an5 : Option Addr} {sl5 : Array (Option Value)} {oc5 kV5 dc5 pm5 cd5 ct5 : Value}
    (a5 : PySem.W.nsIn K mainGlobals "goes_on" = some (some (.ref f5))) (l5 : K.lookup f5 = some ⟨oc5, od5, .func (PySem.W.fnOf "goes_on" "goes_on" (defArgs s_goes_on) (defBody s_goes_on) (defScope s_goes_on) .none kV5 dc5 pm5 an5 cd5 ct5), sl5⟩) (c5 : PySem.W.codeIn K cd5 "goes_on" = true) (k5 : PySem.W.keepIn K (.ref f5) = true)
    {f6 : Addr} {od6 an6 : Option Addr} {sl6 : Array (Option Value)} {oc6 kV6 dc6 pm6 cd6 ct6 : Value}
    (a6 : PySem.W.nsIn K mainGlobals "joins" = some (some (.ref f6))) (l6 : K.lookup f6 = some ⟨oc6, od6, .func (PySem.W.fnOf "joins" "joins" (defArgs s_joins) (defBody s_joins) (defScope s_joins) .none kV6 dc6 pm6 an6 cd6 ct6), sl6⟩) (c6 : PySem.W.codeIn K cd6 "joins" = true) (k6 : PySem.W.keepIn K (.ref f6) = true)
    {f7 : Addr} {od7 an7 : Option Addr} {sl7 : Array (Option Value)} {oc7 kV7 dc7 pm7 cd7 ct7 : Value}
    (a7 : PySem.W.nsIn K mainGlobals "last_arrival" = some (some (.ref f7))) (l7 : K.lookup f7 = some ⟨oc7, od7, .func (PySem.W.fnOf "last_arrival" "last_arrival" (defArgs s_last_arrival) (defBody s_last_arrival) (defScope s_last_arrival) .none kV7 dc7 pm7 an7 cd7 ct7), sl7⟩) (c7 : PySem.W.codeIn K cd7 "last_arrival" = true) (k7 : PySem.W.keepIn K (.ref f7) = true)
    {f8 : Addr} {od8 an8 : Option Addr} {sl8 : Array (Option Value)} {oc8 kV8 dc8 pm8 cd8 ct8 : Value}
    (a8 : PySem.W.nsIn K mainGlobals "moved" = some (some (.ref f8))) (l8 : K.lookup f8 = some ⟨oc8, od8, .func (PySem.W.fnOf "moved" "moved" (defArgs s_moved) (defBody s_moved) (defScope s_moved) .none kV8 dc8 pm8 an8 cd8 ct8), sl8⟩) (c8 : PySem.W.codeIn K cd8 "moved" = true) (k8 : PySem.W.keepIn K (.ref f8) = true)
    {f9 : Addr} {od9 an9 : Option Addr} {sl9 : Array (Option Value)} {oc9 kV9 dc9 pm9 cd9 ct9 : Value}
    (a9 : PySem.W.nsIn K mainGlobals "ascending" = some (some (.ref f9))) (l9 : K.lookup f9 = some ⟨oc9, od9, .func (PySem.W.fnOf "ascending" "ascending" (defArgs s_ascending) (defBody s_ascending) (defScope s_ascending) .none kV9 dc9 pm9 an9 cd9 ct9), sl9⟩) (c9 : PySem.W.codeIn K cd9 "ascending" = true) (k9 : PySem.W.keepIn K (.ref f9) = true)
    {f10 : Addr} {od10 an10 : Option Addr} {sl10 : Array (Option Value)} {oc10 kV10 dc10 pm10 cd10 ct10 : Value}
    (a10 : PySem.W.nsIn K mainGlobals "run_pairs" = some (some (.ref f10))) (l10 : K.lookup f10 = some ⟨oc10, od10, .func (PySem.W.fnOf "run_pairs" "run_pairs" (defArgs s_run_pairs) (defBody s_run_pairs) (defScope s_run_pairs) .none kV10 dc10 pm10 an10 cd10 ct10), sl10⟩) (c10 : PySem.W.codeIn K cd10 "run_pairs" = true) (k10 : PySem.W.keepIn K (.ref f10) = true)
    {f11 : Addr} {od11 an11 : Option Addr} {sl11 : Array (Option Value)} {oc11 kV11 dc11 pm11 cd11 ct11 : Value}
    (a11 : PySem.W.nsIn K mainGlobals "longest_runs" = some (some (.ref f11))) (l11 : K.lookup f11 = some ⟨oc11, od11, .func (PySem.W.fnOf "longest_runs" "longest_runs" (defArgs s_longest_runs) (defBody s_longest_runs) (defScope s_longest_runs) .none kV11 dc11 pm11 an11 cd11 ct11), sl11⟩) (c11 : PySem.W.codeIn K cd11 "longest_runs" = true) (k11 : PySem.W.keepIn K (.ref f11) = true)
    {f12 : Addr} {od12 an12 : Option Addr} {sl12 : Array (Option Value)} {oc12 kV12 dc12 pm12 cd12 ct12 : Value}
    (a12 : PySem.W.nsIn K mainGlobals "place_of" = some (some (.ref f12))) (l12 : K.lookup f12 = some ⟨oc12, od12, .func (PySem.W.fnOf "place_of" "place_of" (defArgs s_place_of) (defBody s_place_of) (defScope s_place_of) .none kV12 dc12 pm12 an12 cd12 ct12), sl12⟩) (c12 : PySem.W.codeIn K cd12 "place_of" = true) (k12 : PySem.W.keepIn K (.ref f12) = true)
    {f13 : Addr} {od13 an13 : Option Addr} {sl13 : Array (Option Value)} {oc13 kV13 dc13 pm13 cd13 ct13 : Value}
    (a13 : PySem.W.nsIn K mainGlobals "arrival_by_run" = some (some (.ref f13))) (l13 : K.lookup f13 = some ⟨oc13, od13, .func (PySem.W.fnOf "arrival_by_run" "arrival_by_run" (defArgs s_arrival_by_run) (defBody s_arrival_by_run) (defScope s_arrival_by_run) .none kV13 dc13 pm13 an13 cd13 ct13), sl13⟩) (c13 : PySem.W.codeIn K cd13 "arrival_by_run" = true) (k13 : PySem.W.keepIn K (.ref f13) = true)
    {f14 : Addr} {od14 an14 : Option Addr} {sl14 : Array (Option Value)} {oc14 kV14 dc14 pm14 cd14 ct14 : Value}
    (a14 : PySem.W.nsIn K mainGlobals "arrival_at" = some (some (.ref f14))) (l14 : K.lookup f14 = some ⟨oc14, od14, .func (PySem.W.fnOf "arrival_at" "arrival_at" (defArgs s_arrival_at) (defBody s_arrival_at) (defScope s_arrival_at) .none kV14 dc14 pm14 an14 cd14 ct14), sl14⟩) (c14 : PySem.W.codeIn K cd14 "arrival_at" = true) (k14 : PySem.W.keepIn K (.ref f14) = true)
    {f15 : Addr} {od15 an15 : Option Addr} {sl15 : Array (Option Value)} {oc15 kV15 dc15 pm15 cd15 ct15 : Value}
    (a15 : PySem.W.nsIn K mainGlobals "arrivals_at" = some (some (.ref f15))) (l15 : K.lookup f15 = some ⟨oc15, od15, .func (PySem.W.fnOf "arrivals_at" "arrivals_at" (defArgs s_arrivals_at) (defBody s_arrivals_at) (defScope s_arrivals_at) .none kV15 dc15 pm15 an15 cd15 ct15), sl15⟩) (c15 : PySem.W.codeIn K cd15 "arrivals_at" = true) (k15 : PySem.W.keepIn K (.ref f15) = true)
    {f16 : Addr} {od16 an16 : Option Addr} {sl16 : Array (Option Value)} {oc16 kV16 dc16 pm16 cd16 ct16 : Value}
    (a16 : PySem.W.nsIn K mainGlobals "runs_within" = some (some (.ref f16))) (l16 : K.lookup f16 = some ⟨oc16, od16, .func (PySem.W.fnOf "runs_within" "runs_within" (defArgs s_runs_within) (defBody s_runs_within) (defScope s_runs_within) .none kV16 dc16 pm16 an16 cd16 ct16), sl16⟩) (c16 : PySem.W.codeIn K cd16 "runs_within" = true) (k16 : PySem.W.keepIn K (.ref f16) = true)
    {f17 : Addr} {od17 an17 : Option Addr} {sl17 : Array (Option Value)} {oc17 kV17 dc17 pm17 cd17 ct17 : Value}
    (a17 : PySem.W.nsIn K mainGlobals "behind_runs" = some (some (.ref f17))) (l17 : K.lookup f17 = some ⟨oc17, od17, .func (PySem.W.fnOf "behind_runs" "behind_runs" (defArgs s_behind_runs) (defBody s_behind_runs) (defScope s_behind_runs) .none kV17 dc17 pm17 an17 cd17 ct17), sl17⟩) (c17 : PySem.W.codeIn K cd17 "behind_runs" = true) (k17 : PySem.W.keepIn K (.ref f17) = true)
    {f18 : Addr} {od18 an18 : Option Addr} {sl18 : Array (Option Value)} {oc18 kV18 dc18 pm18 cd18 ct18 : Value}
    (a18 : PySem.W.nsIn K mainGlobals "stretches" = some (some (.ref f18))) (l18 : K.lookup f18 = some ⟨oc18, od18, .func (PySem.W.fnOf "stretches" "stretches" (defArgs s_stretches) (defBody s_stretches) (defScope s_stretches) .none kV18 dc18 pm18 an18 cd18 ct18), sl18⟩) (c18 : PySem.W.codeIn K cd18 "stretches" = true) (k18 : PySem.W.keepIn K (.ref f18) = true)
    {f19 : Addr} {od19 an19 : Option Addr} {sl19 : Array (Option Value)} {oc19 kV19 dc19 pm19 cd19 ct19 : Value}
    (a19 : PySem.W.nsIn K mainGlobals "parted" = some (some (.ref f19))) (l19 : K.lookup f19 = some ⟨oc19, od19, .func (PySem.W.fnOf "parted" "parted" (defArgs s_parted) (defBody s_parted) (defScope s_parted) .none kV19 dc19 pm19 an19 cd19 ct19), sl19⟩) (c19 : PySem.W.codeIn K cd19 "parted" = true) (k19 : PySem.W.keepIn K (.ref f19) = true)
    {f20 : Addr} {od20 an20 : Option Addr} {sl20 : Array (Option Value)} {oc20 kV20 dc20 pm20 cd20 ct20 : Value}
    (a20 : PySem.W.nsIn K mainGlobals "runs_of_parts" = some (some (.ref f20))) (l20 : K.lookup f20 = some ⟨oc20, od20, .func (PySem.W.fnOf "runs_of_parts" "runs_of_parts" (defArgs s_runs_of_parts) (defBody s_runs_of_parts) (defScope s_runs_of_parts) .none kV20 dc20 pm20 an20 cd20 ct20), sl20⟩) (c20 : PySem.W.codeIn K cd20 "runs_of_parts" = true) (k20 : PySem.W.keepIn K (.ref f20) = true)
    {f21 : Addr} {od21 an21 : Option Addr} {sl21 : Array (Option Value)} {oc21 kV21 dc21 pm21 cd21 ct21 : Value}
    (a21 : PySem.W.nsIn K mainGlobals "sooner_runs" = some (some (.ref f21))) (l21 : K.lookup f21 = some ⟨oc21, od21, .func (PySem.W.fnOf "sooner_runs" "sooner_runs" (defArgs s_sooner_runs) (defBody s_sooner_runs) (defScope s_sooner_runs) .none kV21 dc21 pm21 an21 cd21 ct21), sl21⟩) (c21 : PySem.W.codeIn K cd21 "sooner_runs" = true) (k21 : PySem.W.keepIn K (.ref f21) = true)
    {f22 : Addr} {od22 an22 : Option Addr} {sl22 : Array (Option Value)} {oc22 kV22 dc22 pm22 cd22 ct22 : Value}
    (a22 : PySem.W.nsIn K mainGlobals "both_runs" = some (some (.ref f22))) (l22 : K.lookup f22 = some ⟨oc22, od22, .func (PySem.W.fnOf "both_runs" "both_runs" (defArgs s_both_runs) (defBody s_both_runs) (defScope s_both_runs) .none kV22 dc22 pm22 an22 cd22 ct22), sl22⟩) (c22 : PySem.W.codeIn K cd22 "both_runs" = true) (k22 : PySem.W.keepIn K (.ref f22) = true)
    {f23 : Addr} {od23 an23 : Option Addr} {sl23 : Array (Option Value)} {oc23 kV23 dc23 pm23 cd23 ct23 : Value}
    (a23 : PySem.W.findIn K (.ref C) "__init__" = some (some (.ref f23))) (i23 : PySem.W.isFn K (.ref f23) = true) (l23 : K.lookup f23 = some ⟨oc23, od23, .func (PySem.W.fnOf "__init__" "Passage.__init__" (defArgs s_P_init) (defBody s_P_init) (defScope s_P_init) .none kV23 dc23 pm23 an23 cd23 ct23), sl23⟩) (c23 : PySem.W.codeIn K cd23 "Passage.__init__" = true) (k23 : PySem.W.keepIn K (.ref f23) = true)
    {f24 : Addr} {od24 an24 : Option Addr} {sl24 : Array (Option Value)} {oc24 kV24 dc24 pm24 cd24 ct24 : Value}
    (a24 : PySem.W.findIn K (.ref C) "__call__" = some (some (.ref f24))) (i24 : PySem.W.isFn K (.ref f24) = true) (y24 : PySem.W.fnIn K f24 = true) (l24 : K.lookup f24 = some ⟨oc24, od24, .func (PySem.W.fnOf "__call__" "Passage.__call__" (defArgs s_P_call) (defBody s_P_call) (defScope s_P_call) .none kV24 dc24 pm24 an24 cd24 ct24), sl24⟩) (c24 : PySem.W.codeIn K cd24 "Passage.__call__" = true) (k24 : PySem.W.keepIn K (.ref f24) = true)
    {f25 : Addr} {od25 an25 : Option Addr} {sl25 : Array (Option Value)} {oc25 kV25 dc25 pm25 cd25 ct25 : Value}
    (a25 : PySem.W.findIn K (.ref C) "__add__" = some (some (.ref f25))) (i25 : PySem.W.isFn K (.ref f25) = true) (l25 : K.lookup f25 = some ⟨oc25, od25, .func (PySem.W.fnOf "__add__" "Passage.__add__" (defArgs s_P_add) (defBody s_P_add) (defScope s_P_add) .none kV25 dc25 pm25 an25 cd25 ct25), sl25⟩) (c25 : PySem.W.codeIn K cd25 "Passage.__add__" = true) (k25 : PySem.W.keepIn K (.ref f25) = true)
    {f26 : Addr} {od26 an26 : Option Addr} {sl26 : Array (Option Value)} {oc26 kV26 dc26 pm26 cd26 ct26 : Value}
    (a26 : PySem.W.findIn K (.ref C) "__or__" = some (some (.ref f26))) (i26 : PySem.W.isFn K (.ref f26) = true) (l26 : K.lookup f26 = some ⟨oc26, od26, .func (PySem.W.fnOf "__or__" "Passage.__or__" (defArgs s_P_or) (defBody s_P_or) (defScope s_P_or) .none kV26 dc26 pm26 an26 cd26 ct26), sl26⟩) (c26 : PySem.W.codeIn K cd26 "Passage.__or__" = true) (k26 : PySem.W.keepIn K (.ref f26) = true)
    {f27 : Addr} {od27 an27 : Option Addr} {sl27 : Array (Option Value)} {oc27 kV27 dc27 pm27 cd27 ct27 : Value}
    (a27 : PySem.W.findIn K (.ref C) "__and__" = some (some (.ref f27))) (i27 : PySem.W.isFn K (.ref f27) = true) (l27 : K.lookup f27 = some ⟨oc27, od27, .func (PySem.W.fnOf "__and__" "Passage.__and__" (defArgs s_P_and) (defBody s_P_and) (defScope s_P_and) .none kV27 dc27 pm27 an27 cd27 ct27), sl27⟩) (c27 : PySem.W.codeIn K cd27 "Passage.__and__" = true) (k27 : PySem.W.keepIn K (.ref f27) = true)
    {f28 : Addr} {od28 an28 : Option Addr} {sl28 : Array (Option Value)} {oc28 kV28 dc28 pm28 cd28 ct28 : Value}
    (a28 : PySem.W.findIn K (.ref C) "__eq__" = some (some (.ref f28))) (i28 : PySem.W.isFn K (.ref f28) = true) (l28 : K.lookup f28 = some ⟨oc28, od28, .func (PySem.W.fnOf "__eq__" "Passage.__eq__" (defArgs s_P_eq) (defBody s_P_eq) (defScope s_P_eq) .none kV28 dc28 pm28 an28 cd28 ct28), sl28⟩) (c28 : PySem.W.codeIn K cd28 "Passage.__eq__" = true) (k28 : PySem.W.keepIn K (.ref f28) = true)
    {f29 : Addr} {od29 an29 : Option Addr} {sl29 : Array (Option Value)} {oc29 kV29 dc29 pm29 cd29 ct29 : Value}
    (a29 : PySem.W.nsIn K mainGlobals "check_passage" = some (some (.ref f29))) (l29 : K.lookup f29 = some ⟨oc29, od29, .func (PySem.W.fnOf "check_passage" "check_passage" (defArgs s_check_passage) (defBody s_check_passage) (defScope s_check_passage) .none kV29 dc29 pm29 an29 cd29 ct29), sl29⟩) (c29 : PySem.W.codeIn K cd29 "check_passage" = true) (k29 : PySem.W.keepIn K (.ref f29) = true)
    {f30 : Addr} {od30 an30 : Option Addr} {sl30 : Array (Option Value)} {oc30 kV30 dc30 pm30 cd30 ct30 : Value}
    (a30 : PySem.W.nsIn K mainGlobals "check_pair" = some (some (.ref f30))) (l30 : K.lookup f30 = some ⟨oc30, od30, .func (PySem.W.fnOf "check_pair" "check_pair" (defArgs s_check_pair) (defBody s_check_pair) (defScope s_check_pair) .none kV30 dc30 pm30 an30 cd30 ct30), sl30⟩) (c30 : PySem.W.codeIn K cd30 "check_pair" = true) (k30 : PySem.W.keepIn K (.ref f30) = true)
    {f31 : Addr} {od31 an31 : Option Addr} {sl31 : Array (Option Value)} {oc31 kV31 dc31 pm31 cd31 ct31 : Value}
    (a31 : PySem.W.nsIn K mainGlobals "put_together" = some (some (.ref f31))) (l31 : K.lookup f31 = some ⟨oc31, od31, .func (PySem.W.fnOf "put_together" "put_together" (defArgs s_put_together) (defBody s_put_together) (defScope s_put_together) .none kV31 dc31 pm31 an31 cd31 ct31), sl31⟩) (c31 : PySem.W.codeIn K cd31 "put_together" = true) (k31 : PySem.W.keepIn K (.ref f31) = true)
    {f32 : Addr} {od32 an32 : Option Addr} {sl32 : Array (Option Value)} {oc32 kV32 dc32 pm32 cd32 ct32 : Value}
    (a32 : PySem.W.nsIn K mainGlobals "all_together" = some (some (.ref f32))) (l32 : K.lookup f32 = some ⟨oc32, od32, .func (PySem.W.fnOf "all_together" "all_together" (defArgs s_all_together) (defBody s_all_together) (defScope s_all_together) .none kV32 dc32 pm32 an32 cd32 ct32), sl32⟩) (c32 : PySem.W.codeIn K cd32 "all_together" = true) (k32 : PySem.W.keepIn K (.ref f32) = true)
    {f33 : Addr} {od33 an33 : Option Addr} {sl33 : Array (Option Value)} {oc33 kV33 dc33 pm33 cd33 ct33 : Value}
    (a33 : PySem.W.nsIn K mainGlobals "is_window" = some (some (.ref f33))) (l33 : K.lookup f33 = some ⟨oc33, od33, .func (PySem.W.fnOf "is_window" "is_window" (defArgs s_is_window) (defBody s_is_window) (defScope s_is_window) .none kV33 dc33 pm33 an33 cd33 ct33), sl33⟩) (c33 : PySem.W.codeIn K cd33 "is_window" = true) (k33 : PySem.W.keepIn K (.ref f33) = true)
    {f34 : Addr} {od34 an34 : Option Addr} {sl34 : Array (Option Value)} {oc34 kV34 dc34 pm34 cd34 ct34 : Value}
    (a34 : PySem.W.nsIn K mainGlobals "from_windows" = some (some (.ref f34))) (l34 : K.lookup f34 = some ⟨oc34, od34, .func (PySem.W.fnOf "from_windows" "from_windows" (defArgs s_from_windows) (defBody s_from_windows) (defScope s_from_windows) .none kV34 dc34 pm34 an34 cd34 ct34), sl34⟩) (c34 : PySem.W.codeIn K cd34 "from_windows" = true) (k34 : PySem.W.keepIn K (.ref f34) = true)
    {f35 : Addr} {od35 an35 : Option Addr} {sl35 : Array (Option Value)} {oc35 kV35 dc35 pm35 cd35 ct35 : Value}
    (a35 : PySem.W.nsIn K mainGlobals "fewest_windows" = some (some (.ref f35))) (l35 : K.lookup f35 = some ⟨oc35, od35, .func (PySem.W.fnOf "fewest_windows" "fewest_windows" (defArgs s_fewest_windows) (defBody s_fewest_windows) (defScope s_fewest_windows) .none kV35 dc35 pm35 an35 cd35 ct35), sl35⟩) (c35 : PySem.W.codeIn K cd35 "fewest_windows" = true) (k35 : PySem.W.keepIn K (.ref f35) = true)
    {f36 : Addr} {od36 an36 : Option Addr} {sl36 : Array (Option Value)} {oc36 kV36 dc36 pm36 cd36 ct36 : Value}
    (a36 : PySem.W.nsIn K mainGlobals "windows_of" = some (some (.ref f36))) (l36 : K.lookup f36 = some ⟨oc36, od36, .func (PySem.W.fnOf "windows_of" "windows_of" (defArgs s_windows_of) (defBody s_windows_of) (defScope s_windows_of) .none kV36 dc36 pm36 an36 cd36 ct36), sl36⟩) (c36 : PySem.W.codeIn K cd36 "windows_of" = true) (k36 : PySem.W.keepIn K (.ref f36) = true)
    {f37 : Addr} {od37 an37 : Option Addr} {sl37 : Array (Option Value)} {oc37 kV37 dc37 pm37 cd37 ct37 : Value}
    (a37 : PySem.W.nsIn K mainGlobals "window_at_home" = some (some (.ref f37))) (l37 : K.lookup f37 = some ⟨oc37, od37, .func (PySem.W.fnOf "window_at_home" "window_at_home" (defArgs s_window_at_home) (defBody s_window_at_home) (defScope s_window_at_home) .none kV37 dc37 pm37 an37 cd37 ct37), sl37⟩) (c37 : PySem.W.codeIn K cd37 "window_at_home" = true) (k37 : PySem.W.keepIn K (.ref f37) = true)
    {f38 : Addr} {od38 an38 : Option Addr} {sl38 : Array (Option Value)} {oc38 kV38 dc38 pm38 cd38 ct38 : Value}
    (a38 : PySem.W.nsIn K mainGlobals "_law_spring" = some (some (.ref f38))) (l38 : K.lookup f38 = some ⟨oc38, od38, .func (PySem.W.fnOf "_law_spring" "_law_spring" (defArgs s_l_spring) (defBody s_l_spring) (defScope s_l_spring) .none kV38 dc38 pm38 an38 cd38 ct38), sl38⟩) (c38 : PySem.W.codeIn K cd38 "_law_spring" = true) (k38 : PySem.W.keepIn K (.ref f38) = true)
    {f39 : Addr} {od39 an39 : Option Addr} {sl39 : Array (Option Value)} {oc39 kV39 dc39 pm39 cd39 ct39 : Value}
    (a39 : PySem.W.nsIn K mainGlobals "_law_take" = some (some (.ref f39))) (l39 : K.lookup f39 = some ⟨oc39, od39, .func (PySem.W.fnOf "_law_take" "_law_take" (defArgs s_l_take) (defBody s_l_take) (defScope s_l_take) .none kV39 dc39 pm39 an39 cd39 ct39), sl39⟩) (c39 : PySem.W.codeIn K cd39 "_law_take" = true) (k39 : PySem.W.keepIn K (.ref f39) = true)
    {f40 : Addr} {od40 an40 : Option Addr} {sl40 : Array (Option Value)} {oc40 kV40 dc40 pm40 cd40 ct40 : Value}
    (a40 : PySem.W.nsIn K mainGlobals "_law_shares" = some (some (.ref f40))) (l40 : K.lookup f40 = some ⟨oc40, od40, .func (PySem.W.fnOf "_law_shares" "_law_shares" (defArgs s_l_shares) (defBody s_l_shares) (defScope s_l_shares) .none kV40 dc40 pm40 an40 cd40 ct40), sl40⟩) (c40 : PySem.W.codeIn K cd40 "_law_shares" = true) (k40 : PySem.W.keepIn K (.ref f40) = true)
    {f41 : Addr} {od41 an41 : Option Addr} {sl41 : Array (Option Value)} {oc41 kV41 dc41 pm41 cd41 ct41 : Value}
    (a41 : PySem.W.nsIn K mainGlobals "_law_rows" = some (some (.ref f41))) (l41 : K.lookup f41 = some ⟨oc41, od41, .func (PySem.W.fnOf "_law_rows" "_law_rows" (defArgs s_l_rows) (defBody s_l_rows) (defScope s_l_rows) .none kV41 dc41 pm41 an41 cd41 ct41), sl41⟩) (c41 : PySem.W.codeIn K cd41 "_law_rows" = true) (k41 : PySem.W.keepIn K (.ref f41) = true)
    {f42 : Addr} {od42 an42 : Option Addr} {sl42 : Array (Option Value)} {oc42 kV42 dc42 pm42 cd42 ct42 : Value}
    (a42 : PySem.W.nsIn K mainGlobals "_law_to" = some (some (.ref f42))) (l42 : K.lookup f42 = some ⟨oc42, od42, .func (PySem.W.fnOf "_law_to" "_law_to" (defArgs s_l_to) (defBody s_l_to) (defScope s_l_to) .none kV42 dc42 pm42 an42 cd42 ct42), sl42⟩) (c42 : PySem.W.codeIn K cd42 "_law_to" = true) (k42 : PySem.W.keepIn K (.ref f42) = true)
    {f43 : Addr} {od43 an43 : Option Addr} {sl43 : Array (Option Value)} {oc43 kV43 dc43 pm43 cd43 ct43 : Value}
    (a43 : PySem.W.nsIn K mainGlobals "_law_by" = some (some (.ref f43))) (l43 : K.lookup f43 = some ⟨oc43, od43, .func (PySem.W.fnOf "_law_by" "_law_by" (defArgs s_l_by) (defBody s_l_by) (defScope s_l_by) .none kV43 dc43 pm43 an43 cd43 ct43), sl43⟩) (c43 : PySem.W.codeIn K cd43 "_law_by" = true) (k43 : PySem.W.keepIn K (.ref f43) = true)
    {f44 : Addr} {od44 an44 : Option Addr} {sl44 : Array (Option Value)} {oc44 kV44 dc44 pm44 cd44 ct44 : Value}
    (a44 : PySem.W.nsIn K mainGlobals "_law_able" = some (some (.ref f44))) (l44 : K.lookup f44 = some ⟨oc44, od44, .func (PySem.W.fnOf "_law_able" "_law_able" (defArgs s_l_able) (defBody s_l_able) (defScope s_l_able) .none kV44 dc44 pm44 an44 cd44 ct44), sl44⟩) (c44 : PySem.W.codeIn K cd44 "_law_able" = true) (k44 : PySem.W.keepIn K (.ref f44) = true)
    {f45 : Addr} {od45 an45 : Option Addr} {sl45 : Array (Option Value)} {oc45 kV45 dc45 pm45 cd45 ct45 : Value}
    (a45 : PySem.W.nsIn K mainGlobals "_law_greatest" = some (some (.ref f45))) (l45 : K.lookup f45 = some ⟨oc45, od45, .func (PySem.W.fnOf "_law_greatest" "_law_greatest" (defArgs s_l_greatest) (defBody s_l_greatest) (defScope s_l_greatest) .none kV45 dc45 pm45 an45 cd45 ct45), sl45⟩) (c45 : PySem.W.codeIn K cd45 "_law_greatest" = true) (k45 : PySem.W.keepIn K (.ref f45) = true)
    {f46 : Addr} {od46 an46 : Option Addr} {sl46 : Array (Option Value)} {oc46 kV46 dc46 pm46 cd46 ct46 : Value}
    (a46 : PySem.W.nsIn K mainGlobals "_law_is_within" = some (some (.ref f46))) (l46 : K.lookup f46 = some ⟨oc46, od46, .func (PySem.W.fnOf "_law_is_within" "_law_is_within" (defArgs s_l_is_within) (defBody s_l_is_within) (defScope s_l_is_within) .none kV46 dc46 pm46 an46 cd46 ct46), sl46⟩) (c46 : PySem.W.codeIn K cd46 "_law_is_within" = true) (k46 : PySem.W.keepIn K (.ref f46) = true)
    {f47 : Addr} {od47 an47 : Option Addr} {sl47 : Array (Option Value)} {oc47 kV47 dc47 pm47 cd47 ct47 : Value}
    (a47 : PySem.W.nsIn K mainGlobals "_law_fewest" = some (some (.ref f47))) (l47 : K.lookup f47 = some ⟨oc47, od47, .func (PySem.W.fnOf "_law_fewest" "_law_fewest" (defArgs s_l_fewest) (defBody s_l_fewest) (defScope s_l_fewest) .none kV47 dc47 pm47 an47 cd47 ct47), sl47⟩) (c47 : PySem.W.codeIn K cd47 "_law_fewest" = true) (k47 : PySem.W.keepIn K (.ref f47) = true)
    {f48 : Addr} {od48 an48 : Option Addr} {sl48 : Array (Option Value)} {oc48 kV48 dc48 pm48 cd48 ct48 : Value}
    (a48 : PySem.W.nsIn K mainGlobals "_law_right" = some (some (.ref f48))) (l48 : K.lookup f48 = some ⟨oc48, od48, .func (PySem.W.fnOf "_law_right" "_law_right" (defArgs s_l_right) (defBody s_l_right) (defScope s_l_right) .none kV48 dc48 pm48 an48 cd48 ct48), sl48⟩) (c48 : PySem.W.codeIn K cd48 "_law_right" = true) (k48 : PySem.W.keepIn K (.ref f48) = true)
    {f49 : Addr} {od49 an49 : Option Addr} {sl49 : Array (Option Value)} {oc49 kV49 dc49 pm49 cd49 ct49 : Value}
    (a49 : PySem.W.nsIn K mainGlobals "law" = some (some (.ref f49))) (l49 : K.lookup f49 = some ⟨oc49, od49, .func (PySem.W.fnOf "law" "law" (defArgs s_law) (defBody s_law) (defScope s_law) .none kV49 dc49 pm49 an49 cd49 ct49), sl49⟩) (c49 : PySem.W.codeIn K cd49 "law" = true) (k49 : PySem.W.keepIn K (.ref f49) = true)
    (z0 : PySem.W.nsIn K mainGlobals "all" = some none)
    (z1 : PySem.W.nsIn K mainGlobals "bool" = some none)
    (z2 : PySem.W.nsIn K mainGlobals "enumerate" = some none)
    (z3 : PySem.W.nsIn K mainGlobals "int" = some none)
    (z4 : PySem.W.nsIn K mainGlobals "isinstance" = some none)
    (z5 : PySem.W.nsIn K mainGlobals "len" = some none)
    (z6 : PySem.W.nsIn K mainGlobals "list" = some none)
    (z7 : PySem.W.nsIn K mainGlobals "max" = some none)
    (z8 : PySem.W.nsIn K mainGlobals "min" = some none)
    (z9 : PySem.W.nsIn K mainGlobals "range" = some none)
    (z10 : PySem.W.nsIn K mainGlobals "set" = some none)
    (z11 : PySem.W.nsIn K mainGlobals "sorted" = some none)
    (z12 : PySem.W.nsIn K mainGlobals "tuple" = some none)
    (z13 : PySem.W.nsIn K mainGlobals "zip" = some none)
    {tMOST_CYCLE : Tok} (mMOST_CYCLE : PySem.W.nsIn K mainGlobals "MOST_CYCLE" = some (some (.int 1000000000000000000000000000000 tMOST_CYCLE)))
    {tSOONER : Tok} (mSOONER : PySem.W.nsIn K mainGlobals "SOONER" = some (some (.str "{" tSOONER)))
    {tBOTH : Tok} (mBOTH : PySem.W.nsIn K mainGlobals "BOTH" = some (some (.str "<" tBOTH)))
    : ∃ fd : FuncData, (∀ (s : Shared) (v : Value), BindsTo s fd ⟨[v], []⟩ [("_law_script", v)]) ∧ ∀ base : Heap, K.In base → base.Ns mainGlobals mg → FnG l.prog w K mg base CX0 12 fa fd ["_law_script"] (spLaw K) := by
  have e := hfa.symm.trans (PySem.W.mg_of X G a49)
  cases e
  have B : Blt mg tMOST_CYCLE := ⟨PySem.W.mg_none_of X G z0, PySem.W.mg_none_of X G z1, PySem.W.mg_none_of X G z2, PySem.W.mg_none_of X G z3, PySem.W.mg_none_of X G z4, PySem.W.mg_none_of X G z5, PySem.W.mg_none_of X G z6, PySem.W.mg_none_of X G z7, PySem.W.mg_none_of X G z8, PySem.W.mg_none_of X G z9, PySem.W.mg_none_of X G z10, PySem.W.mg_none_of X G z11, PySem.W.mg_none_of X G z12, PySem.W.mg_none_of X G z13, (PySem.W.mg_of X G mMOST_CYCLE).trans (congrArg (fun z => some (Value.int z tMOST_CYCLE)) (show (1000000000000000000000000000000 : Int) = (10 ^ 30) by decide +kernel)), ⟨_, PySem.W.mg_of X G mSOONER⟩, ⟨_, PySem.W.mg_of X G mBOTH⟩⟩
  have F0 := fun_mk (st := s_is_whole) l0 c0 k0
  have Dis_whole : Def K mg "is_whole" s_is_whole ["value"] f0 _ := ⟨F0, PySem.W.mg_of X G a0, F0.binds (ps := ["value"]) fun _ _ _ _ _ _ us hl => match us, hl with | [_], _ => rfl⟩
  have F1 := fun_mk (st := s_check_cycle) l1 c1 k1
  have Dcheck_cycle : Def K mg "check_cycle" s_check_cycle ["cycle"] f1 _ := ⟨F1, PySem.W.mg_of X G a1, F1.binds (ps := ["cycle"]) fun _ _ _ _ _ _ us hl => match us, hl with | [_], _ => rfl⟩
  have F2 := fun_mk (st := s_check_moment) l2 c2 k2
  have Dcheck_moment : Def K mg "check_moment" s_check_moment ["moment"] f2 _ := ⟨F2, PySem.W.mg_of X G a2, F2.binds (ps := ["moment"]) fun _ _ _ _ _ _ us hl => match us, hl with | [_], _ => rfl⟩
  have F3 := fun_mk (st := s_is_run) l3 c3 k3
  have Dis_run : Def K mg "is_run" s_is_run ["value"] f3 _ := ⟨F3, PySem.W.mg_of X G a3, F3.binds (ps := ["value"]) fun _ _ _ _ _ _ us hl => match us, hl with | [_], _ => rfl⟩
  have F4 := fun_mk (st := s_are_runs) l4 c4 k4
  have Dare_runs : Def K mg "are_runs" s_are_runs ["cycle", "value"] f4 _ := ⟨F4, PySem.W.mg_of X G a4, F4.binds (ps := ["cycle", "value"]) fun _ _ _ _ _ _ us hl => match us, hl with | [_, _], _ => rfl⟩
  have F5 := fun_mk (st := s_goes_on) l5 c5 k5
  have Dgoes_on : Def K mg "goes_on" s_goes_on ["before", "run"] f5 _ := ⟨F5, PySem.W.mg_of X G a5, F5.binds (ps := ["before", "run"]) fun _ _ _ _ _ _ us hl => match us, hl with | [_, _], _ => rfl⟩
  have F6 := fun_mk (st := s_joins) l6 c6 k6
  have Djoins : Def K mg "joins" s_joins ["before", "run"] f6 _ := ⟨F6, PySem.W.mg_of X G a6, F6.binds (ps := ["before", "run"]) fun _ _ _ _ _ _ us hl => match us, hl with | [_, _], _ => rfl⟩
  have F7 := fun_mk (st := s_last_arrival) l7 c7 k7
  have Dlast_arrival : Def K mg "last_arrival" s_last_arrival ["run"] f7 _ := ⟨F7, PySem.W.mg_of X G a7, F7.binds (ps := ["run"]) fun _ _ _ _ _ _ us hl => match us, hl with | [_], _ => rfl⟩
  have F8 := fun_mk (st := s_moved) l8 c8 k8
  have Dmoved : Def K mg "moved" s_moved ["run", "ticks"] f8 _ := ⟨F8, PySem.W.mg_of X G a8, F8.binds (ps := ["run", "ticks"]) fun _ _ _ _ _ _ us hl => match us, hl with | [_, _], _ => rfl⟩
  have F9 := fun_mk (st := s_ascending) l9 c9 k9
  have Dascending : Def K mg "ascending" s_ascending ["cycle", "rows"] f9 _ := ⟨F9, PySem.W.mg_of X G a9, F9.binds (ps := ["cycle", "rows"]) fun _ _ _ _ _ _ us hl => match us, hl with | [_, _], _ => rfl⟩
  have F10 := fun_mk (st := s_run_pairs) l10 c10 k10
  have Drun_pairs : Def K mg "run_pairs" s_run_pairs ["cycle", "runs"] f10 _ := ⟨F10, PySem.W.mg_of X G a10, F10.binds (ps := ["cycle", "runs"]) fun _ _ _ _ _ _ us hl => match us, hl with | [_, _], _ => rfl⟩
  have F11 := fun_mk (st := s_longest_runs) l11 c11 k11
  have Dlongest_runs : Def K mg "longest_runs" s_longest_runs ["cycle", "runs"] f11 _ := ⟨F11, PySem.W.mg_of X G a11, F11.binds (ps := ["cycle", "runs"]) fun _ _ _ _ _ _ us hl => match us, hl with | [_, _], _ => rfl⟩
  have F12 := fun_mk (st := s_place_of) l12 c12 k12
  have Dplace_of : Def K mg "place_of" s_place_of ["cycle", "runs", "start"] f12 _ := ⟨F12, PySem.W.mg_of X G a12, F12.binds (ps := ["cycle", "runs", "start"]) fun _ _ _ _ _ _ us hl => match us, hl with | [_, _, _], _ => rfl⟩
  have F13 := fun_mk (st := s_arrival_by_run) l13 c13 k13
  have Darrival_by_run : Def K mg "arrival_by_run" s_arrival_by_run ["run", "start"] f13 _ := ⟨F13, PySem.W.mg_of X G a13, F13.binds (ps := ["run", "start"]) fun _ _ _ _ _ _ us hl => match us, hl with | [_, _], _ => rfl⟩
  have F14 := fun_mk (st := s_arrival_at) l14 c14 k14
  have Darrival_at : Def K mg "arrival_at" s_arrival_at ["cycle", "runs", "start"] f14 _ := ⟨F14, PySem.W.mg_of X G a14, F14.binds (ps := ["cycle", "runs", "start"]) fun _ _ _ _ _ _ us hl => match us, hl with | [_, _, _], _ => rfl⟩
  have F15 := fun_mk (st := s_arrivals_at) l15 c15 k15
  have Darrivals_at : Def K mg "arrivals_at" s_arrivals_at ["cycle", "runs", "starts"] f15 _ := ⟨F15, PySem.W.mg_of X G a15, F15.binds (ps := ["cycle", "runs", "starts"]) fun _ _ _ _ _ _ us hl => match us, hl with | [_, _, _], _ => rfl⟩
  have F16 := fun_mk (st := s_runs_within) l16 c16 k16
  have Druns_within : Def K mg "runs_within" s_runs_within ["cycle", "runs", "low", "high"] f16 _ := ⟨F16, PySem.W.mg_of X G a16, F16.binds (ps := ["cycle", "runs", "low", "high"]) fun _ _ _ _ _ _ us hl => match us, hl with | [_, _, _, _], _ => rfl⟩
  have F17 := fun_mk (st := s_behind_runs) l17 c17 k17
  have Dbehind_runs : Def K mg "behind_runs" s_behind_runs ["cycle", "runs", "others"] f17 _ := ⟨F17, PySem.W.mg_of X G a17, F17.binds (ps := ["cycle", "runs", "others"]) fun _ _ _ _ _ _ us hl => match us, hl with | [_, _, _], _ => rfl⟩
  have F18 := fun_mk (st := s_stretches) l18 c18 k18
  have Dstretches : Def K mg "stretches" s_stretches ["cycle", "runs", "others"] f18 _ := ⟨F18, PySem.W.mg_of X G a18, F18.binds (ps := ["cycle", "runs", "others"]) fun _ _ _ _ _ _ us hl => match us, hl with | [_, _, _], _ => rfl⟩
  have F19 := fun_mk (st := s_parted) l19 c19 k19
  have Dparted : Def K mg "parted" s_parted ["stretch"] f19 _ := ⟨F19, PySem.W.mg_of X G a19, F19.binds (ps := ["stretch"]) fun _ _ _ _ _ _ us hl => match us, hl with | [_], _ => rfl⟩
  have F20 := fun_mk (st := s_runs_of_parts) l20 c20 k20
  have Druns_of_parts : Def K mg "runs_of_parts" s_runs_of_parts ["cycle", "parts"] f20 _ := ⟨F20, PySem.W.mg_of X G a20, F20.binds (ps := ["cycle", "parts"]) fun _ _ _ _ _ _ us hl => match us, hl with | [_, _], _ => rfl⟩
  have F21 := fun_mk (st := s_sooner_runs) l21 c21 k21
  have Dsooner_runs : Def K mg "sooner_runs" s_sooner_runs ["cycle", "runs", "others"] f21 _ := ⟨F21, PySem.W.mg_of X G a21, F21.binds (ps := ["cycle", "runs", "others"]) fun _ _ _ _ _ _ us hl => match us, hl with | [_, _, _], _ => rfl⟩
  have F22 := fun_mk (st := s_both_runs) l22 c22 k22
  have Dboth_runs : Def K mg "both_runs" s_both_runs ["cycle", "runs", "others"] f22 _ := ⟨F22, PySem.W.mg_of X G a22, F22.binds (ps := ["cycle", "runs", "others"]) fun _ _ _ _ _ _ us hl => match us, hl with | [_, _, _], _ => rfl⟩
  have F23 := fun_mk (st := s_P_init) l23 c23 k23
  have DP_init : DefM K "__init__" "Passage.__init__" s_P_init ["self", "cycle", "runs"] f23 _ := ⟨F23, F23.binds (ps := ["self", "cycle", "runs"]) fun _ _ _ _ _ _ us hl => match us, hl with | [_, _, _], _ => rfl⟩
  have F24 := fun_mk (st := s_P_call) l24 c24 k24
  have DP_call : DefM K "__call__" "Passage.__call__" s_P_call ["self", "start"] f24 _ := ⟨F24, F24.binds (ps := ["self", "start"]) fun _ _ _ _ _ _ us hl => match us, hl with | [_, _], _ => rfl⟩
  have F25 := fun_mk (st := s_P_add) l25 c25 k25
  have DP_add : DefM K "__add__" "Passage.__add__" s_P_add ["self", "other"] f25 _ := ⟨F25, F25.binds (ps := ["self", "other"]) fun _ _ _ _ _ _ us hl => match us, hl with | [_, _], _ => rfl⟩
  have F26 := fun_mk (st := s_P_or) l26 c26 k26
  have DP_or : DefM K "__or__" "Passage.__or__" s_P_or ["self", "other"] f26 _ := ⟨F26, F26.binds (ps := ["self", "other"]) fun _ _ _ _ _ _ us hl => match us, hl with | [_, _], _ => rfl⟩
  have F27 := fun_mk (st := s_P_and) l27 c27 k27
  have DP_and : DefM K "__and__" "Passage.__and__" s_P_and ["self", "other"] f27 _ := ⟨F27, F27.binds (ps := ["self", "other"]) fun _ _ _ _ _ _ us hl => match us, hl with | [_, _], _ => rfl⟩
  have F28 := fun_mk (st := s_P_eq) l28 c28 k28
  have DP_eq : DefM K "__eq__" "Passage.__eq__" s_P_eq ["self", "other"] f28 _ := ⟨F28, F28.binds (ps := ["self", "other"]) fun _ _ _ _ _ _ us hl => match us, hl with | [_, _], _ => rfl⟩
  have F29 := fun_mk (st := s_check_passage) l29 c29 k29
  have Dcheck_passage : Def K mg "check_passage" s_check_passage ["passage"] f29 _ := ⟨F29, PySem.W.mg_of X G a29, F29.binds (ps := ["passage"]) fun _ _ _ _ _ _ us hl => match us, hl with | [_], _ => rfl⟩
  have F30 := fun_mk (st := s_check_pair) l30 c30 k30
  have Dcheck_pair : Def K mg "check_pair" s_check_pair ["one", "other"] f30 _ := ⟨F30, PySem.W.mg_of X G a30, F30.binds (ps := ["one", "other"]) fun _ _ _ _ _ _ us hl => match us, hl with | [_, _], _ => rfl⟩
  have F31 := fun_mk (st := s_put_together) l31 c31 k31
  have Dput_together : Def K mg "put_together" s_put_together ["way", "one", "other"] f31 _ := ⟨F31, PySem.W.mg_of X G a31, F31.binds (ps := ["way", "one", "other"]) fun _ _ _ _ _ _ us hl => match us, hl with | [_, _, _], _ => rfl⟩
  have F32 := fun_mk (st := s_all_together) l32 c32 k32
  have Dall_together : Def K mg "all_together" s_all_together ["way", "passages"] f32 _ := ⟨F32, PySem.W.mg_of X G a32, F32.binds (ps := ["way", "passages"]) fun _ _ _ _ _ _ us hl => match us, hl with | [_, _], _ => rfl⟩
  have F33 := fun_mk (st := s_is_window) l33 c33 k33
  have Dis_window : Def K mg "is_window" s_is_window ["cycle", "value"] f33 _ := ⟨F33, PySem.W.mg_of X G a33, F33.binds (ps := ["cycle", "value"]) fun _ _ _ _ _ _ us hl => match us, hl with | [_, _], _ => rfl⟩
  have F34 := fun_mk (st := s_from_windows) l34 c34 k34
  have Dfrom_windows : Def K mg "from_windows" s_from_windows ["cycle", "windows"] f34 _ := ⟨F34, PySem.W.mg_of X G a34, F34.binds (ps := ["cycle", "windows"]) fun _ _ _ _ _ _ us hl => match us, hl with | [_, _], _ => rfl⟩
  have F35 := fun_mk (st := s_fewest_windows) l35 c35 k35
  have Dfewest_windows : Def K mg "fewest_windows" s_fewest_windows ["passage"] f35 _ := ⟨F35, PySem.W.mg_of X G a35, F35.binds (ps := ["passage"]) fun _ _ _ _ _ _ us hl => match us, hl with | [_], _ => rfl⟩
  have F36 := fun_mk (st := s_windows_of) l36 c36 k36
  have Dwindows_of : Def K mg "windows_of" s_windows_of ["cycle", "runs"] f36 _ := ⟨F36, PySem.W.mg_of X G a36, F36.binds (ps := ["cycle", "runs"]) fun _ _ _ _ _ _ us hl => match us, hl with | [_, _], _ => rfl⟩
  have F37 := fun_mk (st := s_window_at_home) l37 c37 k37
  have Dwindow_at_home : Def K mg "window_at_home" s_window_at_home ["cycle", "window", "greatest"] f37 _ := ⟨F37, PySem.W.mg_of X G a37, F37.binds (ps := ["cycle", "window", "greatest"]) fun _ _ _ _ _ _ us hl => match us, hl with | [_, _, _], _ => rfl⟩
  have F38 := fun_mk (st := s_l_spring) l38 c38 k38
  have Dl_spring : Def K mg "_law_spring" s_l_spring ["_law_script", "_law_k"] f38 _ := ⟨F38, PySem.W.mg_of X G a38, F38.binds (ps := ["_law_script", "_law_k"]) fun _ _ _ _ _ _ us hl => match us, hl with | [_, _], _ => rfl⟩
  have F39 := fun_mk (st := s_l_take) l39 c39 k39
  have Dl_take : Def K mg "_law_take" s_l_take ["_law_spring_here", "_law_many"] f39 _ := ⟨F39, PySem.W.mg_of X G a39, F39.binds (ps := ["_law_spring_here", "_law_many"]) fun _ _ _ _ _ _ us hl => match us, hl with | [_, _], _ => rfl⟩
  have F40 := fun_mk (st := s_l_shares) l40 c40 k40
  have Dl_shares : Def K mg "_law_shares" s_l_shares ["_law_spring_here", "_law_total", "_law_many"] f40 _ := ⟨F40, PySem.W.mg_of X G a40, F40.binds (ps := ["_law_spring_here", "_law_total", "_law_many"]) fun _ _ _ _ _ _ us hl => match us, hl with | [_, _, _], _ => rfl⟩
  have F41 := fun_mk (st := s_l_rows) l41 c41 k41
  have Dl_rows : Def K mg "_law_rows" s_l_rows ["_law_spring_here", "_law_cycle_here", "_law_many", "_law_begin", "_law_arrival"] f41 _ := ⟨F41, PySem.W.mg_of X G a41, F41.binds (ps := ["_law_spring_here", "_law_cycle_here", "_law_many", "_law_begin", "_law_arrival"]) fun _ _ _ _ _ _ us hl => match us, hl with | [_, _, _, _, _], _ => rfl⟩
  have F42 := fun_mk (st := s_l_to) l42 c42 k42
  have Dl_to : Def K mg "_law_to" s_l_to ["_law_cycle_here", "_law_rows_here", "_law_start"] f42 _ := ⟨F42, PySem.W.mg_of X G a42, F42.binds (ps := ["_law_cycle_here", "_law_rows_here", "_law_start"]) fun _ _ _ _ _ _ us hl => match us, hl with | [_, _, _], _ => rfl⟩
  have F43 := fun_mk (st := s_l_by) l43 c43 k43
  have Dl_by : Def K mg "_law_by" s_l_by ["_law_cycle_here", "_law_windows", "_law_start"] f43 _ := ⟨F43, PySem.W.mg_of X G a43, F43.binds (ps := ["_law_cycle_here", "_law_windows", "_law_start"]) fun _ _ _ _ _ _ us hl => match us, hl with | [_, _, _], _ => rfl⟩
  have F44 := fun_mk (st := s_l_able) l44 c44 k44
  have Dl_able : Def K mg "_law_able" s_l_able ["_law_cycle_here", "_law_table"] f44 _ := ⟨F44, PySem.W.mg_of X G a44, F44.binds (ps := ["_law_cycle_here", "_law_table"]) fun _ _ _ _ _ _ us hl => match us, hl with | [_, _], _ => rfl⟩
  have F45 := fun_mk (st := s_l_greatest) l45 c45 k45
  have Dl_greatest : Def K mg "_law_greatest" s_l_greatest ["_law_sets"] f45 _ := ⟨F45, PySem.W.mg_of X G a45, F45.binds (ps := ["_law_sets"]) fun _ _ _ _ _ _ us hl => match us, hl with | [_], _ => rfl⟩
  have F46 := fun_mk (st := s_l_is_within) l46 c46 k46
  have Dl_is_within : Def K mg "_law_is_within" s_l_is_within ["_law_one", "_law_sets"] f46 _ := ⟨F46, PySem.W.mg_of X G a46, F46.binds (ps := ["_law_one", "_law_sets"]) fun _ _ _ _ _ _ us hl => match us, hl with | [_, _], _ => rfl⟩
  have F47 := fun_mk (st := s_l_fewest) l47 c47 k47
  have Dl_fewest : Def K mg "_law_fewest" s_l_fewest ["_law_sets", "_law_left"] f47 _ := ⟨F47, PySem.W.mg_of X G a47, F47.binds (ps := ["_law_sets", "_law_left"]) fun _ _ _ _ _ _ us hl => match us, hl with | [_, _], _ => rfl⟩
  have F48 := fun_mk (st := s_l_right) l48 c48 k48
  have Dl_right : Def K mg "_law_right" s_l_right ["_law_spring_here", "_law_cycle_here"] f48 _ := ⟨F48, PySem.W.mg_of X G a48, F48.binds (ps := ["_law_spring_here", "_law_cycle_here"]) fun _ _ _ _ _ _ us hl => match us, hl with | [_, _], _ => rfl⟩
  have F49 := fun_mk (st := s_law) l49 c49 k49
  have Dlaw : Def K mg "law" s_law ["_law_script"] fa _ := ⟨F49, PySem.W.mg_of X G a49, F49.binds (ps := ["_law_script"]) fun _ _ _ _ _ _ us hl => match us, hl with | [_], _ => rfl⟩
  have MP_init : Meth K C "__init__" f23 := ⟨a23, i23, k23⟩
  have MP_call : Meth K C "__call__" f24 := ⟨a24, i24, k24⟩
  have MP_add : Meth K C "__add__" f25 := ⟨a25, i25, k25⟩
  have MP_or : Meth K C "__or__" f26 := ⟨a26, i26, k26⟩
  have MP_and : Meth K C "__and__" f27 := ⟨a27, i27, k27⟩
  have MP_eq : Meth K C "__eq__" f28 := ⟨a28, i28, k28⟩
  have TP : TxtP K mg C f23 f24 := ⟨⟨pg, hd, po, sa⟩, nA0, nA1, PySem.W.mg_of X G aC, ⟨mi, a23, i23, kC⟩, ⟨a24, i24, y24⟩⟩
  refine ⟨PySem.W.fnOf "law" "law" (defArgs s_law) (defBody s_law) (defScope s_law) .none kV49 dc49 pm49 an49 cd49 ct49, fun s v => .of_eq rfl, fun base _ _ => ?_⟩
  have IP : IsP K C := ⟨iha, ihn, ihtk, ihm, if_pos (beq_self_eq_true _)⟩
  have NF : NeP K C := ⟨hne1, ihm⟩
  have GP_init := ok_initP (P := l.prog) (w := w) (base := base) B TP DP_init Dcheck_cycle Dis_whole Dare_runs Dis_run Dgoes_on Dlast_arrival Drun_pairs Dmoved Dlongest_runs Djoins Dascending
  have GP_call := ok_callP (P := l.prog) (w := w) (base := base) B TP DP_call Dcheck_moment Dis_whole Darrival_at Dplace_of Darrival_by_run Dmoved
  have GP_eq := ok_eqP (P := l.prog) (w := w) (base := base) B TP IP DP_eq
  have GP_add := ok_addP (P := l.prog) (w := w) (base := base) B TP IP DP_add Dcheck_pair Dcheck_passage Dbehind_runs Dmoved Dlast_arrival Druns_within Darrival_at Dplace_of Darrival_by_run DP_init GP_init
  have GP_or := ok_orP (P := l.prog) (w := w) (base := base) B TP IP DP_or Dcheck_pair Dcheck_passage Dsooner_runs Dstretches Druns_of_parts Darrivals_at Dparted Dmoved Darrival_by_run DP_init GP_init
  have GP_and := ok_andP (P := l.prog) (w := w) (base := base) B TP IP DP_and Dcheck_pair Dcheck_passage Dboth_runs Dstretches Druns_of_parts Darrivals_at Dparted Dmoved Darrival_by_run DP_init GP_init
  have Gput_together := ok_put (P := l.prog) (w := w) (base := base) B TP Dput_together DP_or DP_and DP_add MP_add MP_or MP_and GP_add GP_or GP_and hsf
  have Gall_together := ok_all (P := l.prog) (w := w) (base := base) B TP Dall_together Dput_together Gput_together
  have Gfrom_windows := ok_from (P := l.prog) (w := w) (base := base) B TP Dfrom_windows Dcheck_cycle Dis_whole Dis_window Dall_together DP_init GP_init Gall_together
  have Gfewest_windows := ok_fewest (P := l.prog) (w := w) (base := base) B TP IP Dfewest_windows Dcheck_passage Dwindows_of Drun_pairs Dmoved Dwindow_at_home
  have Gl_right := ok_right (P := l.prog) (w := w) (base := base) B TP IP Dl_right Dl_take Dl_rows Dl_shares Dl_to Dl_able Dl_by Dl_greatest Dl_is_within Dfewest_windows DP_init Dfrom_windows DP_eq Dl_fewest GP_init Gfewest_windows NF MP_eq GP_eq Gfrom_windows
  exact ok_law B TP Dlaw Dl_spring Dl_take Dl_right Dfewest_windows DP_init GP_init Gfewest_windows Gl_right
end Gr
open PySem PySem.W PyProof.Rows
set_option maxHeartbeats 0 in
theorem PySem.Challenge.cw_greenroads_k24_fewest_windows_by_search_holds : PySem.Challenge.rw_greenroads_k24_fewest_windows_by_search.Holds := by
  w_on; o_law; k_head; (case hw => w_witness2)
  k_fill
  refine Gr.walkG (l := PySem.Challenge.rw_greenroads_k24_fewest_windows_by_search) (n := 63) (k := 12) (x := "_law_script") (sp := Gr.spLaw) rfl (by decide) rfl ⟨rfl, by decide, by decide⟩ (fun w h Y => PySem.W.kIn_of Y) ?F (fun K G a ns hl _ hS => ⟨a, ns, rfl, hS, hl, fun _ => rfl⟩)
  case F =>
    intro w mg fa h KX G hmg
    refine' Gr.all_mk KX G hmg ?aC ?pg ?hd ?po ?sa ?mi ?kC ?nA0 ?nA1 ?iha ?ihn ?ihtk ?ihm ?hsf ?hne1 ?a0 ?l0 ?c0 ?k0 ?a1 ?l1 ?c1 ?k1 ?a2 ?l2 ?c2 ?k2 ?a3 ?l3 ?c3 ?k3 ?a4 ?l4 ?c4 ?k4 ?a5 ?l5 ?c5 ?k5 ?a6 ?l6 ?c6 ?k6 ?a7 ?l7 ?c7 ?k7 ?a8 ?l8 ?c8 ?k8 ?a9 ?l9 ?c9 ?k9 ?a10 ?l10 ?c10 ?k10 ?a11 ?l11 ?c11 ?k11 ?a12 ?l12 ?c12 ?k12 ?a13 ?l13 ?c13 ?k13 ?a14 ?l14 ?c14 ?k14 ?a15 ?l15 ?c15 ?k15 ?a16 ?l16 ?c16 ?k16 ?a17 ?l17 ?c17 ?k17 ?a18 ?l18 ?c18 ?k18 ?a19 ?l19 ?c19 ?k19 ?a20 ?l20 ?c20 ?k20 ?a21 ?l21 ?c21 ?k21 ?a22 ?l22 ?c22 ?k22 ?a23 ?i23 ?l23 ?c23 ?k23 ?a24 ?i24 ?y24 ?l24 ?c24 ?k24 ?a25 ?i25 ?l25 ?c25 ?k25 ?a26 ?i26 ?l26 ?c26 ?k26 ?a27 ?i27 ?l27 ?c27 ?k27 ?a28 ?i28 ?l28 ?c28 ?k28 ?a29 ?l29 ?c29 ?k29 ?a30 ?l30 ?c30 ?k30 ?a31 ?l31 ?c31 ?k31 ?a32 ?l32 ?c32 ?k32 ?a33 ?l33 ?c33 ?k33 ?a34 ?l34 ?c34 ?k34 ?a35 ?l35 ?c35 ?k35 ?a36 ?l36 ?c36 ?k36 ?a37 ?l37 ?c37 ?k37 ?a38 ?l38 ?c38 ?k38 ?a39 ?l39 ?c39 ?k39 ?a40 ?l40 ?c40 ?k40 ?a41 ?l41 ?c41 ?k41 ?a42 ?l42 ?c42 ?k42 ?a43 ?l43 ?c43 ?k43 ?a44 ?l44 ?c44 ?k44 ?a45 ?l45 ?c45 ?k45 ?a46 ?l46 ?c46 ?k46 ?a47 ?l47 ?c47 ?k47 ?a48 ?l48 ?c48 ?k48 ?a49 ?l49 ?c49 ?k49 ?z0 ?z1 ?z2 ?z3 ?z4 ?z5 ?z6 ?z7 ?z8 ?z9 ?z10 ?z11 ?z12 ?z13 ?mMOST_CYCLE ?mSOONER ?mBOTH
    (case aC => k_is)
    (case pg => k_is)
    (case hd => k_is)
    (case po => k_is)
    (case sa => k_is)
    (case mi => k_is)
    (case kC => k_is)
    (case nA0 => k_is)
    (case nA1 => k_is)
    (case iha => k_is)
    (case ihn => k_is)
    (case ihtk => k_is)
    (case ihm => k_is)
    (case hsf => k_is)
    (case hne1 => k_is)
    (case a0 => k_is)
    (case l0 => k_is)
    (case c0 => k_is)
    (case k0 => k_is)
    (case a1 => k_is)
    (case l1 => k_is)
    (case c1 => k_is)
    (case k1 => k_is)
    (case a2 => k_is)
    (case l2 => k_is)
    (case c2 => k_is)
    (case k2 => k_is)
    (case a3 => k_is)
    (case l3 => k_is)
    (case c3 => k_is)
    (case k3 => k_is)
    (case a4 => k_is)
    (case l4 => k_is)
    (case c4 => k_is)
    (case k4 => k_is)
    (case a5 => k_is)
    (case l5 => k_is)
    (case c5 => k_is)
    (case k5 => k_is)
    (case a6 => k_is)
    (case l6 => k_is)
    (case c6 => k_is)
    (case k6 => k_is)
    (case a7 => k_is)
    (case l7 => k_is)
    (case c7 => k_is)
    (case k7 => k_is)
    (case a8 => k_is)
    (case l8 => k_is)
    (case c8 => k_is)
    (case k8 => k_is)
    (case a9 => k_is)
    (case l9 => k_is)
    (case c9 => k_is)
    (case k9 => k_is)
    (case a10 => k_is)
    (case l10 => k_is)
    (case c10 => k_is)
    (case k10 => k_is)
    (case a11 => k_is)
    (case l11 => k_is)
    (case c11 => k_is)
    (case k11 => k_is)
    (case a12 => k_is)
    (case l12 => k_is)
    (case c12 => k_is)
    (case k12 => k_is)
    (case a13 => k_is)
    (case l13 => k_is)
    (case c13 => k_is)
    (case k13 => k_is)
    (case a14 => k_is)
    (case l14 => k_is)
    (case c14 => k_is)
    (case k14 => k_is)
    (case a15 => k_is)
    (case l15 => k_is)
    (case c15 => k_is)
    (case k15 => k_is)
    (case a16 => k_is)
    (case l16 => k_is)
    (case c16 => k_is)
    (case k16 => k_is)
    (case a17 => k_is)
    (case l17 => k_is)
    (case c17 => k_is)
    (case k17 => k_is)
    (case a18 => k_is)
    (case l18 => k_is)
    (case c18 => k_is)
    (case k18 => k_is)
    (case a19 => k_is)
    (case l19 => k_is)
    (case c19 => k_is)
    (case k19 => k_is)
    (case a20 => k_is)
    (case l20 => k_is)
    (case c20 => k_is)
    (case k20 => k_is)
    (case a21 => k_is)
    (case l21 => k_is)
    (case c21 => k_is)
    (case k21 => k_is)
    (case a22 => k_is)
    (case l22 => k_is)
    (case c22 => k_is)
    (case k22 => k_is)
    (case a23 => k_is)
    (case i23 => k_is)
    (case l23 => k_is)
    (case c23 => k_is)
    (case k23 => k_is)
    (case a24 => k_is)
    (case i24 => k_is)
    (case y24 => k_is)
    (case l24 => k_is)
    (case c24 => k_is)
    (case k24 => k_is)
    (case a25 => k_is)
    (case i25 => k_is)
    (case l25 => k_is)
    (case c25 => k_is)
    (case k25 => k_is)
    (case a26 => k_is)
    (case i26 => k_is)
    (case l26 => k_is)
    (case c26 => k_is)
    (case k26 => k_is)
    (case a27 => k_is)
    (case i27 => k_is)
    (case l27 => k_is)
    (case c27 => k_is)
    (case k27 => k_is)
    (case a28 => k_is)
    (case i28 => k_is)
    (case l28 => k_is)
    (case c28 => k_is)
    (case k28 => k_is)
    (case a29 => k_is)
    (case l29 => k_is)
    (case c29 => k_is)
    (case k29 => k_is)
    (case a30 => k_is)
    (case l30 => k_is)
    (case c30 => k_is)
    (case k30 => k_is)
    (case a31 => k_is)
    (case l31 => k_is)
    (case c31 => k_is)
    (case k31 => k_is)
    (case a32 => k_is)
    (case l32 => k_is)
    (case c32 => k_is)
    (case k32 => k_is)
    (case a33 => k_is)
    (case l33 => k_is)
    (case c33 => k_is)
    (case k33 => k_is)
    (case a34 => k_is)
    (case l34 => k_is)
    (case c34 => k_is)
    (case k34 => k_is)
    (case a35 => k_is)
    (case l35 => k_is)
    (case c35 => k_is)
    (case k35 => k_is)
    (case a36 => k_is)
    (case l36 => k_is)
    (case c36 => k_is)
    (case k36 => k_is)
    (case a37 => k_is)
    (case l37 => k_is)
    (case c37 => k_is)
    (case k37 => k_is)
    (case a38 => k_is)
    (case l38 => k_is)
    (case c38 => k_is)
    (case k38 => k_is)
    (case a39 => k_is)
    (case l39 => k_is)
    (case c39 => k_is)
    (case k39 => k_is)
    (case a40 => k_is)
    (case l40 => k_is)
    (case c40 => k_is)
    (case k40 => k_is)
    (case a41 => k_is)
    (case l41 => k_is)
    (case c41 => k_is)
    (case k41 => k_is)
    (case a42 => k_is)
    (case l42 => k_is)
    (case c42 => k_is)
    (case k42 => k_is)
    (case a43 => k_is)
    (case l43 => k_is)
    (case c43 => k_is)
    (case k43 => k_is)
    (case a44 => k_is)
    (case l44 => k_is)
    (case c44 => k_is)
    (case k44 => k_is)
    (case a45 => k_is)
    (case l45 => k_is)
    (case c45 => k_is)
    (case k45 => k_is)
    (case a46 => k_is)
    (case l46 => k_is)
    (case c46 => k_is)
    (case k46 => k_is)
    (case a47 => k_is)
    (case l47 => k_is)
    (case c47 => k_is)
    (case k47 => k_is)
    (case a48 => k_is)
    (case l48 => k_is)
    (case c48 => k_is)
    (case k48 => k_is)
    (case a49 => k_is)
    (case l49 => k_is)
    (case c49 => k_is)
    (case k49 => k_is)
    (case z0 => k_is)
    (case z1 => k_is)
    (case z2 => k_is)
    (case z3 => k_is)
    (case z4 => k_is)
    (case z5 => k_is)
    (case z6 => k_is)
    (case z7 => k_is)
    (case z8 => k_is)
    (case z9 => k_is)
    (case z10 => k_is)
    (case z11 => k_is)
    (case z12 => k_is)
    (case z13 => k_is)
    (case mMOST_CYCLE => k_is)
    (case mSOONER => k_is)
    (case mBOTH => k_is)
