import PyProof.Rows.All
import Wide.All
import OpenK.AllK
import Wide.FinOn
import PyProof.EqAt
import PyProof.EqKinds
import PyProof.TupleCall
import HandS.ForMost
import HandS.Wide
import HandS.WideBits
import HandS.IsInst
import HandS.TupMul
import HandS.TupAny
import HandS.Style
import HandS.Conv
import HandS.Evl
import HandS.Rev
import HandS.SortRule
import PyProof.Rows.SortShell
import KE.KSortTup
import HandS.SortOrd
import KE.GoesEnum
import KE.GoesZip
import KE.GoesMore
import KE.KDictZip
import PyProof.ListNew
import HandS.Zip
import PyProof.LongRange
import HandS.Star
import HandS.Walk
import HandS.OwnEq
import PySem.Challenge.RW_greenroads_k63_whole_latest_starts_turn
set_option Elab.async false
set_option linter.all false
set_option maxRecDepth 100000
set_option maxHeartbeats 2000000
/-! Defs under which no guard stands (so that repr of lists may be asked), and rules that the layer lacks. -/
namespace Gr
open PySem PySem.Spec PyProof.Rows L2

/-- no repr is under way around the call -/
abbrev Free (A : Around) : Prop := A.guards = some []
theorem Free.deep {A : Around} (h : Free A) (env : Env) : Free (A.deeper env) := h

structure FnG (P : Program) (w : World) (K : PySem.W.Frag) (mg : Str → Option Value) (base : Heap) (C : CXT) (k : Nat) (f : Addr) (fd : FuncData) (ps : List Str) (sp : Sp) : Prop where
  sized : ∀ xs G Z E, sp xs G Z E → xs.length = ps.length
  go : ∀ (A : Around) (envs : List Env) (st : Shared) (G : Hp) (ar : Args) (vals : List Value) (xs : List V) (Z : VK) (E : XK), Free A → Room k A → Env0 P w K mg base A envs st G →
    BindsTo st fd ar (ps.zip vals) → Vals xs vals → sp xs G Z E → codeAny (model P w) A (.call (.ref f) ar) (CR C envs P w G st Z E) st

section
variable {P : Program} {w : World} {K : PySem.W.Frag} {mg : Str → Option Value} {base : Heap} {C : CXT} {k : Nat} {f : Addr} {fd : FuncData} {ps : List Str} {sp : Sp}
theorem FnG.ofOk (F : FnOk P w K mg base C k f fd ps sp) : FnG P w K mg base C k f fd ps sp := ⟨F.len, fun A o st G ar vals xs Z E _ => F.run A o st G ar vals xs Z E⟩

theorem fnG_body {name qual : Str} {params : Arguments} {body : List Stmt} {sc : Scope} {dV kV doc pm cdv ct oc : Value} {an od : Option Addr} {osl : Array (Option Value)} {N : List Str}
    (lk : K.lookup f = some ⟨oc, od, .func (PySem.W.fnOf name qual params body sc dV kV doc pm an cdv ct), osl⟩) (hc : PySem.W.codeIn K cdv qual = true) (S : FnScope N ps sc) (sized : ∀ xs G Z E, sp xs G Z E → xs.length = ps.length)
    (hb : ∀ (A : Around) (envs : List Env) (st : Shared) (G : Hp) (xs : List V) (Z : VK) (E : XK), Free A → Room k (A.deeper (envOfC qual sc st.heap.objs.size f cdv)) → sp xs G Z E →
      ∃ t, PSs (cxOf C P w K mg base N qual sc f cdv A envs st G E) body t ∧ t { nx := fun _ G' => Z .non G', rt := Z } (start N xs) G) :
    FnG P w K mg base C (k + 1) f (PySem.W.fnOf name qual params body sc dV kV doc pm an cdv ct) ps sp where
  sized := sized
  go := by
    intro A envs st G ar vals xs Z E hf room e0 bt rv want
    have kin : K.In st.heap := e0.mod.kin.keeps (fun b o q => (e0.bs b o q).1)
    have nl : st.heap.NoLimit := e0.mod.nolimit.keeps (fun b o q => (e0.bs b o q).1)
    have kinds : ∀ q ∈ ps.zip vals, sc.names.lookup q.1 = some .local ∨ (sc.names.lookup q.1 = some .cell ∧ ((cellsFrom (st.heap.objs.size + 1) sc.names []).lookup q.1).isSome = true) := by
      rintro ⟨n, v⟩ hq
      cases S.par n (List.of_mem_zip hq).1 with
      | inl h => exact Or.inl h
      | inr h => exact Or.inr ⟨h, PySem.W.cellsFrom_some _ _ _ (Or.inl h)⟩
    apply codeAny_call_function room.depth (kin _ _ lk) rfl S.co S.gen rfl (PySem.W.codeRec_of kin hc)
    apply bt
    apply wpAny_newFunctionEnv_cells S.kind kinds
    intro env he s1 x
    cases he
    refine ⟨nl.keeps x.toInCall.keep, codeAny_func ?_⟩
    obtain ⟨t, ht, hq⟩ := hb A envs st G xs Z E hf (room.deeper _) want
    have J0 : Inv (cxOf C P w K mg base N qual sc f cdv A envs st G E) [] (start N xs) G s1 := inv_start S room.hd e0 (sized _ _ _ _ want) rv x
    apply wpAny_mono (ht.run [] s1 (start N xs) G _ J0 hq) _ (fun _ _ h => h)
    intro fl s2 hs
    cases fl with
    | ret u =>
      obtain ⟨v, τ, G2, J, r2, q2⟩ := hs
      exact ⟨v, G2, J.os, J.bare, J.base, J.hok, r2, q2⟩
    | next =>
      obtain ⟨τ, G2, J, q2⟩ := hs
      exact ⟨.non, G2, J.os, J.bare, J.base, J.hok, rfl, q2⟩
    | brk => exact (hs.elim fun _ h => h.elim fun _ h => h.2).elim
    | cont => exact (hs.elim fun _ h => h.elim fun _ h => h.2).elim

/-- a def by its body, guards known -/
theorem okG {x qual : Str} {st : Stmt} {N : List Str} (F : Fun K x qual st f fd) (S : FnScope N ps (defScope st)) (sized : ∀ xs G Z E, sp xs G Z E → xs.length = ps.length)
    (hb : ∀ (cdv : Value) (A : Around) (envs : List Env) (s : Shared) (G : Hp) (xs : List V) (Z : VK) (E : XK), Free A → Room k (A.deeper (envOfC qual (defScope st) s.heap.objs.size f cdv)) → sp xs G Z E →
      ∃ t, PSs (cxOf CX0 P w K mg base N qual (defScope st) f cdv A envs s G E).nox (defBody st) t ∧ t { nx := fun _ G' => Z .non G', rt := Z } (start N xs) G) : FnG P w K mg base CX0 (k + 1) f fd ps sp := by
  obtain ⟨oc, od, kV, doc, pm, an, cdv, ct, osl, rfl, lk, hcd⟩ := F.ex
  apply fnG_body lk hcd S sized
  intro A envs s G xs Z E hf hr hs
  obtain ⟨t, h, q⟩ := hb cdv A envs s G xs Z E hf hr hs
  exact ⟨t, h.nox, q⟩
end

section
variable {X : Cx} {C : CXT} {k : Nat} {f : Addr} {fd : FuncData} {ps : List Str} {sp : Sp} {dvs : List V} {ds : List Value} {E : XK} {x : Str} {p pos : Pos} {e : Expr} {es : List Expr} {t : TA}
theorem pe_callG (F : FnG X.prog X.w X.K X.mg X.base C k f fd ps sp) (hf : Free X.A) (hr : Room k X.A) (hg : Gl X x) (hm : X.mg x = some (.ref f)) (hk : PySem.W.keepIn X.K (.ref f) = true) (hb : Binds X.K fd ps ds) (hd : Vals dvs ds)
    (hx : Passes C X E) (ha : PA X (e :: es) t) (hdb : (x == ("__debug__" : Str)) = false := by decide) (he : starEach (e :: es) X.env = (false, eval e X.env) :: starEach es X.env := by rfl)
    (hpl : (backTo pos (starEach es X.env)).any (·.1) = false := by rfl) : PE X (.Call (.Name x p) (e :: es) [] pos) (tCall sp dvs E t) where
  run := by
    intro pins s σ H Q I h
    apply wpAny_Call_Name_kw
    apply ld_glob I hg hm _ hdb
    apply PySem.W.callWith_K (h₀ := X.base) I.ok.mod.kin hk _ he hpl
    apply thn (ha.run pos pins s σ H _ I h)
    rintro us s1 ⟨vs, H1, I1, r, q⟩
    have both : Vals (vs ++ dvs) (us ++ ds) := r.append hd
    have many : (us ++ ds).length = ps.length := both.length.symm.trans (F.sized _ _ _ _ q)
    refine ⟨I1.kIn, wpAny_call (codeAny_mono (F.go X.A X.stack s1 H1 ⟨us, []⟩ (us ++ ds) (vs ++ dvs) Q E hf hr I1.env0 (hb s1 us I1.kIn many) both q) ?_)⟩
    intro res s2 hq
    match res, hq with
    | .ok (.ret u), hq => exact I1.after hq
    | .error err, hq => exact hx pins σ H1 s1 err s2 I1 hq
end

/-! ### rules -/
section
variable {X : Cx}
def CPowW (i j : Int) : Prop := 0 ≤ j ∧ (Builtin.Int.intBits i : Int) * j ≤ 2 ^ 27
theorem op_powW : OpR X (binaryOp .Pow) (rI CPowW fun i j => .int (i ^ j.toNat)) := opI fun _ _ _ _ _ _ _ hc q => pow_int hc.1 hc.2 q
theorem bits_le {i : Int} {n : Nat} (h : i.natAbs < 2 ^ n) (h0 : 0 < n) : Builtin.Int.intBits i ≤ n := by
  have a := PySem.Flt.log2_lt_of h0 h
  unfold Builtin.Int.intBits
  split <;> omega
theorem cube_ok {i : Int} (h : i.natAbs < 2 ^ 1000) : CPowW i 3 := by
  have a := bits_le h (by decide)
  exact ⟨by decide, by omega⟩

/-- repr of a list, a tuple, what lies in them -/
def rRepr (K : PySem.W.Frag) : List V → Hp → VK → Prop := fun xs H Q => ∃ (a : Addr) (d : PyData), xs = [.ref a] ∧ Dp K H (.ref a) d ∧ d.showable = true ∧ d.hasDict = false ∧ d.depth ≤ 40 ∧ d.shown.length ≤ sizeLine ∧ Q (.str d.shown) H
theorem call_reprD (hf : Free X.A) (hu : X.A.units + 64 < cLine) : CallR X (.builtin "repr") (rRepr X.K) := by
  rintro pins s σ H xs us Q I r ⟨a, d, rfl, hD, hs, hd, h20, hz, q⟩
  obtain ⟨u, rfl, hr⟩ := vals1 r
  cases (show u = Value.ref a from hr)
  obtain ⟨as, rd⟩ := Dp.reads I d (.ref a) (.ref a) hD rfl
  exact repr_of_reads' rd hs (fun e => by rw [hd] at e; cases e) hf (by omega) (fun _ _ e => e) (fun h' u tk hk => ⟨.str d.shown, H, I.kept hk, ⟨u, rfl⟩, q⟩) hz
end

/-! ### the law's own call -/
section
variable {P : Program} {w : World} {K : PySem.W.Frag} {mg mb : Str → Option Value} {k : Nat} {fa a : Addr} {fd : FuncData} {x : Str} {sp : Sp} {st : Shared} {vs : List Value} {ns : List Int}
/-- behind the top: the heap with what G tracks hidden is a module's base -/
theorem base_mod {G : Hp} (kin : K.In st.heap) (hg : st.heap.Ns mainGlobals mg) (hb : st.heap.Ns builtinsNs mb) (hbb : ∀ y : Str, y ≠ "__name__" → mb y = bootBuiltins y) (nl : st.heap.NoLimit)
    (notD : ∀ b o es ep, st.heap.get? b = some o → o.data = .dict es ep → G b = none) (notK : ∀ b o, K.lookup b = some o → G b = none) :
    K.In (hidT st.heap G) ∧ (hidT st.heap G).Ns mainGlobals mg ∧ Mod K mg (hidT st.heap G) := by
  have nsH : ∀ {b : Addr} {m : Str → Option Value}, st.heap.Ns b m → (hidT st.heap G).Ns b m := by
    rintro b m ⟨o, es, ep, e, d, rest⟩
    exact ⟨o, es, ep, hidT_get e (notD b o es ep e d), d, rest⟩
  have kH : K.In (hidT st.heap G) := fun b o e => hidT_get (kin b o e) (notK b o e)
  obtain ⟨mc, c1, c2⟩ := nl
  exact ⟨kH, nsH hg, kH, nsH hg, ⟨mb, nsH hb, hbb⟩, mc, nsH c1, c2⟩

theorem law_run {G : Hp} (bm : K.In (hidT st.heap G) ∧ (hidT st.heap G).Ns mainGlobals mg ∧ Mod K mg (hidT st.heap G)) (no : st.gens = #[]) (only : Only G) (sq : SqL K G a (ns.map V.int)) (ok : HOk P w G st.heap) (room : Room k callerA)
    (F : ∀ base : Heap, K.In base → base.Ns mainGlobals mg → FnG P w K mg base CX0 k fa fd [x] sp) (bt : ∀ (s : Shared) (u : Value), BindsTo s fd ⟨[u], []⟩ [(x, u)])
    (want : sp [.ref a] G (fun v _ => v = .bl true) fun _ _ _ => False) :
    codeAny (model P w) callerA (.call (.ref fa) ⟨[.ref a], []⟩) (fun r s2 => r = .ok (.ret (.bool true)) ∧ OldK st.heap s2.heap ∧ s2.os = st.os ∧ AllBare s2.gens) st := by
  obtain ⟨b1, b2, b3⟩ := bm
  have e0 : Env0 P w K mg (hidT st.heap G) callerA [] st G :=
    { frames := rfl, mod := b3, bs := fun b o e => of_hidT e, bsz := Nat.le_of_eq (hidT_size _ _), funs := trivial, frf := fun b h => (List.not_mem_nil (show b ∈ ([] : List Addr) from h)).elim, hok := ok, bare := .of_eq no }
  apply codeAny_mono ((F _ b1 b2).go callerA [] st G ⟨[.ref a], []⟩ [.ref a] [.ref a] _ _ rfl room e0 (bt st (.ref a)) (.cons rfl .nil) want)
  intro r s2 h
  match r, h with
  | .ok (.ret u), h =>
    obtain ⟨v, G2, os, bare, un, ok2, rv, q⟩ := h
    cases (show v = .bl true from q)
    cases (show u = Value.bool true from rv)
    refine ⟨rfl, OldK.of_keep (fun b o e => ?_), os, bare⟩
    rcases only b with z | ⟨ob, xs, z⟩
    · exact un.keep b o e z (fun h => (List.not_mem_nil (show b ∈ ([] : List Addr) from h)).elim) (by simp)
    · have e1 := (ok b _ z).1
      have e2 := (ok2 b _ (un.frzs b ob _ z)).1
      rw [e] at e1
      cases e1
      exact e2

theorem law_callG (kin : K.In st.heap) (hg : st.heap.Ns mainGlobals mg) (hb : st.heap.Ns builtinsNs mb) (hbb : ∀ y : Str, y ≠ "__name__" → mb y = bootBuiltins y) (nl : st.heap.NoLimit) (no : st.gens = #[])
    (ha : st.heap.get? a = some { cls := .type "list", data := .seq vs.toArray }) (hi : IntsAre vs ns) (hl : ns.length ≤ sizeLine) (room : Room k callerA)
    (F : ∀ base : Heap, K.In base → base.Ns mainGlobals mg → FnG P w K mg base CX0 k fa fd [x] sp) (bt : ∀ (s : Shared) (u : Value), BindsTo s fd ⟨[u], []⟩ [(x, u)])
    (want : ∀ G : Hp, Only G → SqL K G a (ns.map V.int) → sp [.ref a] G (fun v _ => v = .bl true) fun _ _ _ => False) :
    codeAny (model P w) callerA (.call (.ref fa) ⟨[.ref a], []⟩) (fun r s2 => r = .ok (.ret (.bool true)) ∧ OldK st.heap s2.heap ∧ s2.os = st.os ∧ AllBare s2.gens) st := by
  have rv := vals_ints hi
  cases hk : K.lookup a with
  | some o =>
    have e := kin a o hk
    rw [ha] at e
    cases e
    have sq : SqL K (fun _ => none) a (ns.map V.int) := Or.inr ⟨_, vs.toArray, _, hk, rfl, rfl, rfl, by rw [List.size_toArray, hi.length]; exact hl, by simpa using rv⟩
    exact law_run (G := fun _ => none) (base_mod kin hg hb hbb nl (fun _ _ _ _ _ _ => rfl) fun _ _ _ => rfl) no (fun _ => Or.inl rfl) sq (fun b u z => nomatch (show (none : Option HO) = some u from z)) room F bt (want _ (fun _ => Or.inl rfl) sq)
  | none =>
    have at1 : (fun b => if b = a then some (HO.frz { cls := .type "list", data := .seq vs.toArray } (.lst (ns.map V.int))) else none : Hp) a = some (HO.frz { cls := .type "list", data := .seq vs.toArray } (.lst (ns.map V.int))) := if_pos rfl
    generalize hG : (fun b => if b = a then some (HO.frz { cls := .type "list", data := .seq vs.toArray } (.lst (ns.map V.int))) else none : Hp) = G at at1
    have at0 : ∀ b, b ≠ a → G b = none := fun b hb => by rw [← hG]; exact if_neg hb
    have sq : SqL K G a (ns.map V.int) := Or.inl (Or.inr ⟨_, at1⟩)
    have only : Only G := fun b => by
      by_cases hb : b = a
      · exact Or.inr ⟨_, _, hb ▸ at1⟩
      · exact Or.inl (at0 b hb)
    refine law_run (base_mod kin hg hb hbb nl (fun b o es ep e d => ?_) fun b o e => ?_) no only sq (fun b u z => ?_) room F bt (want _ only sq)
    · by_cases hb : b = a
      · rw [hb, ha] at e
        cases e
        cases (show Data.seq vs.toArray _ = Data.dict es ep from d)
      · exact at0 b hb
    · exact at0 b (fun hb => by rw [hb, hk] at e; cases e)
    · by_cases hb : b = a
      · subst hb
        rw [at1] at z
        cases z
        exact ⟨ha, by rw [List.length_map]; exact hl, vs, _, rv, ha⟩
      · rw [at0 b hb] at z
        cases z
end

theorem walkG {l : PySem.W.OpenLaw} {n k : Nat} {q : Program} {loose : List Str} {XP : (Str → Option Value) → Heap → Prop} {YP : World → Heap → Prop} {d : DefRec} {K : Params → PySem.W.Frag} {sp : PySem.W.Frag → Sp} {x : Str}
    (hn : l.most = some n) (hn2 : n ≤ sizeLine) (hdf : d.params.defaults = []) (hr : Room k callerA) (hY : ∀ (w : World) (h : Heap), YP w h → (K w.params).In h)
    (F : ∀ (w : World) (mg : Str → Option Value) (fa : Addr) (h : Heap), (K w.params).In h → h.Ns mainGlobals mg → mg d.name = some (.ref fa) →
      ∃ fd : FuncData, (∀ (s : Shared) (u : Value), BindsTo s fd ⟨[u], []⟩ [(x, u)]) ∧ ∀ base : Heap, (K w.params).In base → base.Ns mainGlobals mg → FnG l.prog w (K w.params) mg base CX0 k fa fd [x] (sp (K w.params)))
    (hsp : ∀ (K : PySem.W.Frag) (G : Hp) (a : Addr) (ns : List Int), ns.length ≤ n → Only G → SqL K G a (ns.map V.int) → sp K [.ref a] G (fun v _ => v = .bl true) fun _ _ _ => False) :
    PySem.W.WalkO q loose XP YP l.row.toRowW d [] (fun f vs => PySem.call f vs) := by
  apply Att.attach_call hn hdf
  intro w s₀ s₁ mg mb fa o pm cd doc a vs ns G Y ho hd hcd hmg hobj hints hlen hg
  have kin := hY w _ Y
  obtain ⟨fd, hb, hF⟩ := F w mg fa _ kin G.T.g hmg
  exact law_callG kin G.T.g G.T.b G.T.builtins G.T.nolimit hg hobj hints (Nat.le_trans hlen hn2) hr hF hb (fun H hO hS => hsp (K w.params) H a ns hlen hO hS)
end Gr

set_option Elab.async false
set_option linter.all false
set_option maxRecDepth 100000
set_option maxHeartbeats 4000000
/-! t[::-1] of a tuple, repr of what is no object. -/
namespace Gr
open PySem PySem.Spec PyProof.Rows L2 HT
section
variable {prog : Program} {w : World} {A : Around} {E : Value → Shared → Prop} {s : Shared}
theorem back_places (n : Nat) : Builtin.Slice.slicePlaces ((n : Int) - 1) (-1) (-1) = n := by
  unfold Builtin.Slice.slicePlaces
  rw [if_neg (by decide)]
  by_cases h : (n : Int) - 1 > -1
  · rw [if_pos h]
    simp only [Int.neg_neg, Int.ediv_one]
    omega
  · rw [if_neg h]; omega
theorem back_applied {sl : Addr} {n : Nat} {t : Tok} {Q : Int × Int × Nat → Shared → Prop} (hs : s.heap.IsSliceOf sl .none .none (.int (-1) t)) (h : Q ((n : Int) - 1, -1, n) s) :
    wpAny (model prog w) A (Builtin.Slice.sliceApplied (.ref sl) (pure (n : Int))) Q E s := by
  obtain ⟨os, e1, e2, e3⟩ := id hs
  unfold Builtin.Slice.sliceApplied Builtin.Slice.sliceFields
  apply wpAny_bind
  apply wpAny_bind
  refine wpAny_field e1 e3 (x := .none) rfl ?_
  apply wpAny_bind
  refine wpAny_field e1 e3 (x := .none) rfl ?_
  apply wpAny_bind
  refine wpAny_field e1 e3 (x := .int (-1) t) rfl (wpAny_pure ?_)
  refine wpAny_bind (slicePart_int ?_)
  show wpAny _ _ (if ((-1 : Int) == 0) = true then _ else _) _ _ s
  rw [if_neg (by decide)]
  apply wpAny_bind
  apply slicePart_none
  apply wpAny_bind
  apply slicePart_none
  refine wpAny_bind (wpAny_pure ?_)
  show wpAny _ _ (pure ((n : Int) - 1, (-1 : Int), Builtin.Slice.slicePlaces ((n : Int) - 1) (-1) (-1))) _ _ s
  rw [back_places]
  exact wpAny_pure h
theorem fm_congr {α β : Type} {f g : α → Option β} : ∀ {l : List α}, (∀ x ∈ l, f x = g x) → l.filterMap f = l.filterMap g
  | [], _ => rfl
  | a :: r, h => by
    rw [List.filterMap_cons, List.filterMap_cons, h a List.mem_cons_self, fm_congr fun x hx => h x (List.mem_cons_of_mem _ hx)]
theorem back_pick (xs : Array Value) : ((List.range xs.size).filterMap fun (m : Nat) => xs[(((xs.size : Int) - 1) + (m : Int) * (-1)).toNat]?).toArray = xs.toList.reverse.toArray := by
  congr 1
  have key : ∀ m ∈ List.range xs.size, xs[(((xs.size : Int) - 1) + (m : Int) * (-1)).toNat]? = xs.toList.reverse[m]? := by
    intro m hm
    have hm' : m < xs.size := List.mem_range.mp hm
    rw [List.getElem?_reverse (by simpa using hm')]
    have e : (((xs.size : Int) - 1) + (m : Int) * (-1)).toNat = xs.toList.length - 1 - m := by
      rw [Array.length_toList]; omega
    rw [e, Array.getElem?_toList]
  rw [fm_congr key]
  have : ∀ l : List Value, (List.range l.length).filterMap (fun m => l[m]?) = l := by
    intro l
    induction l with
    | nil => rfl
    | cons a r ih =>
      rw [List.length_cons, List.range_succ_eq_map, List.filterMap_cons]
      show a :: _ = _
      rw [List.filterMap_map]
      exact congrArg (a :: ·) ih
  have z := this xs.toList.reverse
  rw [List.length_reverse, Array.length_toList] at z
  exact z
theorem getItem_tuple_back {t sl : Addr} {items : Array Value} {u : Tok} {Q : Value → Shared → Prop} (ht : IsTup s.heap t items) (hs : s.heap.IsSliceOf sl .none .none (.int (-1) u))
    (h : Q (.ref s.heap.objs.size) { s with heap := s.heap.push { cls := .type "tuple", data := .seq items.toList.reverse.toArray } }) (hsz : items.size ≤ sizeLine) : wpAny (model prog w) A (getItem (.ref t) (.ref sl)) Q E s := by
  have ok : sizeOk (.seq items.toList.reverse.toArray) := by
    show items.toList.reverse.toArray.size ≤ sizeLine
    rw [List.size_toArray, List.length_reverse, Array.length_toList]
    exact hsz
  obtain ⟨os, e1, e2, e3⟩ := id hs
  have tS : s.TypeIs (.ref sl) "slice" := ⟨os, e1, e2⟩
  unfold getItem
  try with_reducible refine wpAny_holding ?_
  first | refine wpAny_bind (wpAny_pure ?_) | skip
  apply wpAny_bind
  apply wpAny_sequenceKey ht.typeIs (by decide)
  apply wpAny_bind
  refine wpAny_callSpecial?_slot (name := Str.ofString "__getitem__") ht.typeIs PyProof.Rows.slot_tuple_getitem ?_
  refine wpAny_call_entry PyProof.Rows.slot_tuple_getitem ht.typeIs entry_tuple_getitem ?_ (args_tuple_getitem _ _)
  show wpAny _ _ (Builtin.Tuple.tupleItemsOf (.ref t) >>= _) _ _ s
  apply wpAny_bind
  apply tupleItemsOf_ ht
  apply wpAny_bind
  apply wpAny_typeOf tS
  rw [if_pos (by decide)]
  apply wpAny_bind
  apply back_applied hs
  have no : ¬ ((((items.size : Int) - 1) == 0 && (-1 : Int) == 1 && items.size == items.size) = true) := by
    rw [show ((-1 : Int) == 1) = false from rfl, Bool.and_false, Bool.false_and]
    exact Bool.false_ne_true
  show wpAny _ _ (if (((items.size : Int) - 1) == 0 && (-1 : Int) == 1 && items.size == items.size) = true then _ else _) _ _ s
  rw [if_neg no, back_pick]
  first
    | exact wpAny_bind (m := Builtin.Tuple.tupleExact _) (wpAny_newObj_type (wpAny_pure ⟨_, rfl, wpAny_pure h⟩) ok)
    | exact wpAny_bind (m := Builtin.Tuple.tupleExact _) (wpAny_newObj_type (wpAny_bind (wpAny_pure (wpAny_pure ⟨_, rfl, wpAny_pure h⟩))) ok)
    | exact wpAny_bind (wpAny_bind (m := Builtin.Tuple.tupleExact _) (wpAny_newObj_type (wpAny_pure (wpAny_pure ⟨_, rfl, wpAny_pure h⟩)) ok))
    | exact wpAny_bind (wpAny_bind (m := Builtin.Tuple.tupleExact _) (wpAny_newObj_type (wpAny_pure ⟨_, rfl, wpAny_pure h⟩) ok))
end
section
variable {X : Cx}
/-- t[::-1] -/
def tRevT (K : PySem.W.Frag) (te : TE) : TE := fun σ H Q => te σ H fun x H1 => ∃ a xs, x = .ref a ∧ SqT K H1 a xs ∧ ∀ p, H1 p = none → Q (.ref p) (upd H1 p (.tup xs.reverse))
theorem pe_revT {e : Expr} {te : TE} {k : Nat} {p1 p2 p3 pos : Pos} (he : PE X e te) : PE X (.Subscript e (.Slice none none (some (.UnaryOp .USub (.Constant (.int 1) k p1) p2)) p3) pos) (tRevT X.K te) where
  run := by
    intro pins s σ H Q I h
    apply Subscript_
    refine thn (he.run pins s σ H _ I h) ?_
    rintro v s1 ⟨x, H1, I1, r1, a, xs, rfl, hx, q⟩
    cases r1
    have step : PO X (some (.UnaryOp .USub (.Constant (.int 1) k p1) p2)) (tPart (tUn (rU fun i => .int (-i)) (tC (.int 1)))) := po_some (pe_un un_neg pe_int)
    apply wpAny_Slice
    refine thn (po_none.run pins s1 σ H1 (fun o G => o = none ∧ G = H1) I1 ⟨rfl, rfl⟩) ?_
    rintro vl s2 ⟨_, G2, I2, pl, rfl, g2⟩
    rw [g2] at I2
    refine thn (po_none.run pins s2 σ H1 (fun o G => o = none ∧ G = H1) I2 ⟨rfl, rfl⟩) ?_
    rintro vu s3 ⟨_, G3, I3, pu, rfl, g3⟩
    rw [g3] at I3
    refine thn (step.run pins s3 σ H1 (fun o G => o = some (-1) ∧ G = H1) I3 ⟨1, rfl, -1, rfl, rfl, rfl⟩) ?_
    rintro vs s4 ⟨_, G4, I4, ps, rfl, g4⟩
    rw [g4] at I4
    cases pl
    cases pu
    cases ps with
    | int i t =>
      have I5 : Inv X pins σ H1 { s4 with heap := s4.heap.push { cls := .type "slice", data := .fields #[.none, .none, .int (-1) t] } } := I4.kept (t' := s4.toks) fun b ob q => Heap.get?_push_of_some _ q
      obtain ⟨its, r, ht, hz⟩ := I5.tuple hx
      have hlen : its.toArray.size = xs.length := by rw [List.size_toArray]; exact r.length.symm
      show wpAny (model X.prog X.w) X.A (subscriptTail e (.Slice none none (some (.UnaryOp .USub (.Constant (.int 1) k p1) p2)) p3) (.ref a) (.ref s4.heap.objs.size)) (EP X pins σ Q) X.xe { s4 with heap := s4.heap.push { cls := .type "slice", data := .fields #[.none, .none, .int (-1) t] } }
      refine tail_any (ops := [.ref a, .ref s4.heap.objs.size]) ht.typeIs (PyProof.Rows.slot_tuple_getitem.lookup) ?_ (by with_unfolding_all rfl)
      refine getItem_tuple_back ht (Heap.IsSliceOf.new _ .none .none (.int (-1) t)) ?_ (by rw [hlen]; exact hz)
      refine ⟨.ref _, _, I5.laid (t' := s4.toks) (o := .tup xs.reverse) (fun b ob q => Heap.get?_push_of_some _ q) (Nat.le_refl _) ?_, rfl, q _ (I5.hok.fresh (Nat.le_refl _))⟩
      exact ⟨by rw [List.length_reverse]; exact hz, its.toArray.toList.reverse, by simpa using r.reverse, IsTup.new _ _⟩

/-- repr of an object, a truth, None, an int -/
def rReprA (K : PySem.W.Frag) : List V → Hp → VK → Prop := fun xs H Q => ∃ (x : V) (d : PyData), xs = [x] ∧ Dp K H x d ∧ d.showable = true ∧ d.hasDict = false ∧ d.depth ≤ 40 ∧ d.shown.length ≤ sizeLine ∧ (∀ y, x ≠ .str y) ∧ Q (.str d.shown) H
theorem call_reprA (hf : Free X.A) (hu : X.A.units + 64 < cLine) : CallR X (.builtin "repr") (rReprA X.K) := by
  rintro pins s σ H xs us Q I r ⟨x, d, rfl, hD, hs, hd, h20, hz, hy, q⟩
  obtain ⟨u, rfl, hr⟩ := vals1 r
  cases hD with
  | non =>
    cases (show u = Value.none from hr)
    exact PySem.P.repr_of_none ⟨.str _, H, I.tok _, ⟨_, rfl⟩, by simpa [PyData.shown] using q⟩
  | bl b =>
    cases (show u = Value.bool b from hr)
    exact PySem.P.repr_of_bool ⟨.str _, H, I.tok _, ⟨_, rfl⟩, by simpa [PyData.shown] using q⟩
  | int i =>
    obtain ⟨t, rfl⟩ := (show ∃ t, u = Value.int i t from hr)
    exact PySem.P.repr_of_int (by simpa [PyData.showable] using hs) ⟨.str _, H, I.tok _, ⟨_, rfl⟩, by simpa [PyData.shown] using q⟩
  | str y => exact absurd rfl (hy y)
  | @lst a ys ds h1 h2 => exact call_reprD hf hu pins s σ H [.ref a] [u] Q I r ⟨a, _, rfl, .lst h1 h2, hs, hd, h20, hz, q⟩
  | @tup a ys ds h1 h2 => exact call_reprD hf hu pins s σ H [.ref a] [u] Q I r ⟨a, _, rfl, .tup h1 h2, hs, hd, h20, hz, q⟩
end
end Gr

set_option Elab.async false
set_option linter.all false
set_option pp.deepTerms false
set_option pp.maxSteps 3000
set_option maxRecDepth 100000
set_option maxHeartbeats 4000000
namespace Gr
open PySem PySem.Spec PyProof.Rows L2
def topS (i : Nat) : Stmt := PySem.Challenge.pw_greenroads_k63_whole_latest_starts_turn.main.body.getD i (.Pass ⟨0, 0, 0, 0⟩)
abbrev s_is_whole : Stmt := topS 9
theorem scis_whole : FnScope ["value"] ["value"] (defScope s_is_whole) := ⟨rfl, rfl, rfl, by decide +kernel, rfl, by decide +kernel, by decide +kernel⟩
abbrev s_check_cycle : Stmt := topS 10
theorem sccheck_cycle : FnScope ["cycle"] ["cycle"] (defScope s_check_cycle) := ⟨rfl, rfl, rfl, by decide +kernel, rfl, by decide +kernel, by decide +kernel⟩
abbrev s_check_moment : Stmt := topS 11
theorem sccheck_moment : FnScope ["moment"] ["moment"] (defScope s_check_moment) := ⟨rfl, rfl, rfl, by decide +kernel, rfl, by decide +kernel, by decide +kernel⟩
abbrev s_is_run : Stmt := topS 13
theorem scis_run : FnScope ["value", "part"] ["value"] (defScope s_is_run) := ⟨rfl, rfl, rfl, by decide +kernel, rfl, by decide +kernel, by decide +kernel⟩
abbrev s_are_runs : Stmt := topS 14
theorem scare_runs : FnScope ["cycle", "value", "run", "before"] ["cycle", "value"] (defScope s_are_runs) := ⟨rfl, rfl, rfl, by decide +kernel, rfl, by decide +kernel, by decide +kernel⟩
abbrev s_goes_on : Stmt := topS 15
theorem scgoes_on : FnScope ["before", "run"] ["before", "run"] (defScope s_goes_on) := ⟨rfl, rfl, rfl, by decide +kernel, rfl, by decide +kernel, by decide +kernel⟩
abbrev s_joins : Stmt := topS 16
theorem scjoins : FnScope ["before", "run"] ["before", "run"] (defScope s_joins) := ⟨rfl, rfl, rfl, by decide +kernel, rfl, by decide +kernel, by decide +kernel⟩
abbrev s_last_arrival : Stmt := topS 17
theorem sclast_arrival : FnScope ["run", "first", "last", "arrival"] ["run"] (defScope s_last_arrival) := ⟨rfl, rfl, rfl, by decide +kernel, rfl, by decide +kernel, by decide +kernel⟩
abbrev s_moved : Stmt := topS 18
theorem scmoved : FnScope ["run", "ticks", "moment"] ["run", "ticks"] (defScope s_moved) := ⟨rfl, rfl, rfl, by decide +kernel, rfl, by decide +kernel, by decide +kernel⟩
abbrev s_ascending : Stmt := topS 19
theorem scascending : FnScope ["cycle", "rows", "row"] ["cycle", "rows"] (defScope s_ascending) := ⟨rfl, rfl, rfl, by decide +kernel, rfl, by decide +kernel, by decide +kernel⟩
abbrev s_run_pairs : Stmt := topS 20
theorem scrun_pairs : FnScope ["cycle", "runs", "earlier"] ["cycle", "runs"] (defScope s_run_pairs) := ⟨rfl, rfl, rfl, by decide +kernel, rfl, by decide +kernel, by decide +kernel⟩
abbrev s_longest_runs : Stmt := topS 21
theorem sclongest_runs : FnScope ["cycle", "runs", "joined", "first", "last", "arrival", "begin", "_", "early", "end"] ["cycle", "runs"] (defScope s_longest_runs) := ⟨rfl, rfl, rfl, by decide +kernel, rfl, by decide +kernel, by decide +kernel⟩
abbrev s_place_of : Stmt := topS 22
theorem scplace_of : FnScope ["cycle", "runs", "start", "ticks", "low", "high", "middle"] ["cycle", "runs", "start"] (defScope s_place_of) := ⟨rfl, rfl, rfl, by decide +kernel, rfl, by decide +kernel, by decide +kernel⟩
abbrev s_arrival_by_run : Stmt := topS 23
theorem scarrival_by_run : FnScope ["run", "start", "first", "_", "arrival"] ["run", "start"] (defScope s_arrival_by_run) := ⟨rfl, rfl, rfl, by decide +kernel, rfl, by decide +kernel, by decide +kernel⟩
abbrev s_arrival_at : Stmt := topS 24
theorem scarrival_at : FnScope ["cycle", "runs", "start", "at", "ticks"] ["cycle", "runs", "start"] (defScope s_arrival_at) := ⟨rfl, rfl, rfl, by decide +kernel, rfl, by decide +kernel, by decide +kernel⟩
abbrev s_latest_runs : Stmt := topS 28
theorem sclatest_runs : FnScope ["cycle", "runs", "found", "before", "first", "last", "arrival"] ["cycle", "runs"] (defScope s_latest_runs) := ⟨rfl, rfl, rfl, by decide +kernel, rfl, by decide +kernel, by decide +kernel⟩
abbrev s_P_init : Stmt := inClass (topS 35) 0
theorem scP_init : FnScope ["self", "cycle", "runs"] ["self", "cycle", "runs"] (defScope s_P_init) := ⟨rfl, rfl, rfl, by decide +kernel, rfl, by decide +kernel, by decide +kernel⟩
abbrev s_P_call : Stmt := inClass (topS 35) 1
theorem scP_call : FnScope ["self", "start"] ["self", "start"] (defScope s_P_call) := ⟨rfl, rfl, rfl, by decide +kernel, rfl, by decide +kernel, by decide +kernel⟩
abbrev s_P_latest : Stmt := inClass (topS 35) 5
theorem scP_latest : FnScope ["self"] ["self"] (defScope s_P_latest) := ⟨rfl, rfl, rfl, by decide +kernel, rfl, by decide +kernel, by decide +kernel⟩
abbrev s_check_passage : Stmt := topS 36
theorem sccheck_passage : FnScope ["passage"] ["passage"] (defScope s_check_passage) := ⟨rfl, rfl, rfl, by decide +kernel, rfl, by decide +kernel, by decide +kernel⟩
abbrev s_platoons : Stmt := topS 38
theorem scplatoons : FnScope ["passage", "pairs", "found", "before", "run"] ["passage"] (defScope s_platoons) := ⟨rfl, rfl, rfl, by decide +kernel, rfl, by decide +kernel, by decide +kernel⟩
abbrev s_gaps : Stmt := topS 39
theorem scgaps : FnScope ["passage", "pairs", "found", "before", "run"] ["passage"] (defScope s_gaps) := ⟨rfl, rfl, rfl, by decide +kernel, rfl, by decide +kernel, by decide +kernel⟩
abbrev s_l_spring : Stmt := topS 41
theorem scl_spring : FnScope ["_law_script", "_law_k", "_law_cell"] ["_law_script", "_law_k"] (defScope s_l_spring) := ⟨rfl, rfl, rfl, by decide +kernel, rfl, by decide +kernel, by decide +kernel⟩
abbrev s_l_take : Stmt := topS 42
theorem scl_take : FnScope ["_law_spring_here", "_law_many", "_law_found", "_law_mixed"] ["_law_spring_here", "_law_many"] (defScope s_l_take) := ⟨rfl, rfl, rfl, by decide +kernel, rfl, by decide +kernel, by decide +kernel⟩
abbrev s_l_cycle : Stmt := topS 43
theorem scl_cycle : FnScope ["_law_spring_here", "_law_some"] ["_law_spring_here"] (defScope s_l_cycle) := ⟨rfl, rfl, rfl, by decide +kernel, rfl, by decide +kernel, by decide +kernel⟩
abbrev s_l_shares : Stmt := topS 44
theorem scl_shares : FnScope ["_law_spring_here", "_law_total", "_law_many", "_law_found", "_law_turn", "_law_spot"] ["_law_spring_here", "_law_total", "_law_many"] (defScope s_l_shares) := ⟨rfl, rfl, rfl, by decide +kernel, rfl, by decide +kernel, by decide +kernel⟩
abbrev s_l_rows : Stmt := topS 45
theorem scl_rows : FnScope ["_law_spring_here", "_law_cycle_here", "_law_many", "_law_begin", "_law_arrival", "_law_sizes", "_law_left", "_law_turn", "_law_room", "_law_starts_here", "_law_arrivals", "_law_found", "_law_spot", "_law_size_here"] ["_law_spring_here", "_law_cycle_here", "_law_many", "_law_begin", "_law_arrival"] (defScope s_l_rows) := ⟨rfl, rfl, rfl, by decide +kernel, rfl, by decide +kernel, by decide +kernel⟩
abbrev s_l_drawn : Stmt := topS 46
theorem scl_drawn : FnScope ["_law_spring_here", "_law_cycle_here", "_law_many", "_law_far", "_law_begin", "_law_arrival"] ["_law_spring_here", "_law_cycle_here", "_law_many"] (defScope s_l_drawn) := ⟨rfl, rfl, rfl, by decide +kernel, rfl, by decide +kernel, by decide +kernel⟩
abbrev s_l_passage : Stmt := topS 47
theorem scl_passage : FnScope ["_law_spring_here", "_law_cycle_here", "_law_many"] ["_law_spring_here", "_law_cycle_here", "_law_many"] (defScope s_l_passage) := ⟨rfl, rfl, rfl, by decide +kernel, rfl, by decide +kernel, by decide +kernel⟩
abbrev s_l_moved : Stmt := topS 48
theorem scl_moved : FnScope ["_law_cycle_here", "_law_rows_here", "_law_found", "_law_first", "_law_last", "_law_by"] ["_law_cycle_here", "_law_rows_here"] (defScope s_l_moved) := ⟨rfl, rfl, rfl, by decide +kernel, rfl, by decide +kernel, by decide +kernel⟩
abbrev s_l_right : Stmt := topS 49
theorem scl_right : FnScope ["_law_spring_here", "_law_cycle_here", "_law_many", "_law_one", "_law_late", "_law_told", "_law_empty", "_law_first", "_law_last", "_law_arrival", "_law_due", "_law_start", "_law_turn"] ["_law_spring_here", "_law_cycle_here", "_law_many"] (defScope s_l_right) := ⟨rfl, rfl, rfl, by decide +kernel, rfl, by decide +kernel, by decide +kernel⟩
abbrev s_law : Stmt := topS 50
theorem sclaw : FnScope ["_law_script", "_law_k", "_law_spring_here", "_law_turn"] ["_law_script"] (defScope s_law) := ⟨rfl, rfl, rfl, by decide +kernel, rfl, by decide +kernel, by decide +kernel⟩
/-- what the text has at the top beside its defs -/
structure Blt (mg : Str → Option Value) (tMOST_CYCLE : Tok) : Prop where
  n_all : mg "all" = none
  n_bool : mg "bool" = none
  n_enumerate : mg "enumerate" = none
  n_int : mg "int" = none
  n_isinstance : mg "isinstance" = none
  len : mg "len" = none
  n_list : mg "list" = none
  n_max : mg "max" = none
  n_min : mg "min" = none
  range : mg "range" = none
  n_sorted : mg "sorted" = none
  n_sum : mg "sum" = none
  n_tuple : mg "tuple" = none
  n_zip : mg "zip" = none
  MOST_CYCLE : mg "MOST_CYCLE" = some (.int (10 ^ 30) tMOST_CYCLE)
/-- a def that stands under its name -/
structure Def (K : PySem.W.Frag) (mg : Str → Option Value) (x : Str) (st : Stmt) (ps : List Str) (f : Addr) (fd : FuncData) : Prop where
  F : Fun K x x st f fd
  g : mg x = some (.ref f)
  b : Binds K fd ps []
theorem Same.new {H : Hp} {p : Addr} {o : HO} (h : H p = none) : Same H (upd H p o) := fun b u e => by
  rw [upd_ne (ne_of_none e h)]; exact e

/-! ### the checks and is_green -/
def spWhole : Sp := fun vs H Q _ => ∃ i : Int, vs = [.int i] ∧ Q (.bl true) H
def spCycle : Sp := fun vs H Q _ => ∃ c : Int, vs = [.int c] ∧ 1 ≤ c ∧ c ≤ 10 ^ 30 ∧ Q .non H
def spMoment : Sp := fun vs H Q _ => ∃ c : Int, vs = [.int c] ∧ Q .non H
def pairB (c o l : Int) : Bool := decide (0 ≤ o) && decide (o < c) && decide (1 ≤ l) && decide (l ≤ c)
/-- what is_green_pair says of x -/
def PairK (H : Hp) (c : Int) (x : V) (b : Bool) : Prop :=
  (∃ a o l, x = .ref a ∧ H a = some (.tup [.int o, .int l]) ∧ b = pairB c o l) ∨ (∃ a ys, x = .ref a ∧ H a = some (.tup ys) ∧ ys.length ≠ 2 ∧ b = false) ∨ (∃ a ys, x = .ref a ∧ H a = some (.lst ys) ∧ b = false)
theorem PairK.mono {H H' : Hp} {c : Int} {x : V} {b : Bool} (s : Same H H') (h : PairK H c x b) : PairK H' c x b := by
  rcases h with ⟨a, o, l, e, h, k⟩ | ⟨a, ys, e, h, k⟩ | ⟨a, ys, e, h, k⟩
  · exact .inl ⟨a, o, l, e, s _ _ h, k⟩
  · exact .inr (.inl ⟨a, ys, e, s _ _ h, k⟩)
  · exact .inr (.inr ⟨a, ys, e, s _ _ h, k⟩)
def SigK (H : Hp) (c : Int) (x : V) (b : Bool) : Prop :=
  (∃ a ys, x = .ref a ∧ H a = some (.lst ys) ∧ b = false) ∨ (∃ a ys, x = .ref a ∧ H a = some (.tup ys) ∧ ¬ (1 ≤ ys.length ∧ ys.length ≤ 6) ∧ b = false) ∨
  (∃ a ys bs, x = .ref a ∧ H a = some (.tup ys) ∧ 1 ≤ ys.length ∧ ys.length ≤ 6 ∧ Paired (PairK H c) ys bs ∧ b = bs.all id)
def spPair : Sp := fun vs H Q _ => ∃ (x : V) (c : Int) (b : Bool), vs = [x, .int c] ∧ PairK H c x b ∧ Q (.bl b) H
def spSignal : Sp := fun vs H Q _ => ∃ (x : V) (c : Int) (b : Bool), vs = [x, .int c] ∧ 1 ≤ c ∧ c ≤ 10 ^ 30 ∧ SigK H c x b ∧ ∀ H', Same H H' → Q (.bl b) H'
def spChkSignal : Sp := fun vs H Q _ => ∃ (x : V) (c : Int), vs = [.int c, x] ∧ 1 ≤ c ∧ c ≤ 10 ^ 30 ∧ SigK H c x true ∧ ∀ H', Same H H' → Q .non H'
def GrAt (H : Hp) (x : V) (g : Int × Int) : Prop := ∃ b, x = .ref b ∧ H b = some (.tup [.int g.1, .int g.2])
def SigT (H : Hp) (a : Addr) (gs : List (Int × Int)) : Prop := ∃ xs, H a = some (.tup xs) ∧ Paired (GrAt H) xs gs
theorem SigT.mono {H H' : Hp} {a : Addr} {gs : List (Int × Int)} (s : Same H H') (h : SigT H a gs) : SigT H' a gs := by
  obtain ⟨xs, h1, h2⟩ := h
  exact ⟨xs, s _ _ h1, L2.Paired.mapP h2 fun x g ⟨b, e, h⟩ => ⟨b, e, s _ _ h⟩⟩
def OkG (c : Int) (gs : List (Int × Int)) : Prop := 1 ≤ gs.length ∧ gs.length ≤ 6 ∧ ∀ g ∈ gs, 0 ≤ g.1 ∧ g.1 < c ∧ 1 ≤ g.2 ∧ g.2 ≤ c
def lit (c : Int) (gs : List (Int × Int)) (m : Int) : Bool := gs.any fun g => decide ((m - g.1) % c < g.2)
def spGreen : Sp := fun vs H Q _ => ∃ (a : Addr) (c m : Int) (gs : List (Int × Int)), vs = [.int c, .ref a, .int m] ∧ 1 ≤ c ∧ c ≤ 10 ^ 30 ∧ SigT H a gs ∧ OkG c gs ∧ ∀ H', Same H H' → Q (.bl (lit c gs m)) H'

theorem paired_at {α β : Type} {R : α → β → Prop} : ∀ {xs : List α} {ys : List β} {i : Nat} {x : α}, Paired R xs ys → xs[i]? = some x → ∃ y, ys[i]? = some y ∧ R x y
  | _, _, _, _, .nil, e => by simp at e
  | _, _, 0, _, .cons r _, e => by simp at e; subst e; exact ⟨_, rfl, r⟩
  | _, _, i + 1, x, .cons _ t, e => by
    obtain ⟨u, h1, h2⟩ := paired_at (i := i) (x := x) t (by simpa using e)
    exact ⟨u, by simpa using h1, h2⟩
theorem paired_len {α β : Type} {R : α → β → Prop} : ∀ {xs : List α} {ys : List β}, Paired R xs ys → xs.length = ys.length
  | _, _, .nil => rfl
  | _, _, .cons _ t => congrArg (· + 1) (paired_len t)
/-- a signal is one by is_signal -/
theorem SigT.sigK {H : Hp} {a : Addr} {c : Int} {gs : List (Int × Int)} (h : SigT H a gs) (hl : 1 ≤ gs.length ∧ gs.length ≤ 6) : SigK H c (.ref a) (gs.all fun g => pairB c g.1 g.2) := by
  obtain ⟨xs, h1, h2⟩ := h
  have el := paired_len h2
  refine .inr (.inr ⟨a, xs, gs.map (fun g => pairB c g.1 g.2), rfl, h1, by omega, by omega, ?_, ?_⟩)
  · clear h1 el hl
    induction h2 with
    | nil => exact .nil
    | cons r t ih =>
      obtain ⟨b, e, h⟩ := r
      exact .cons (.inl ⟨b, _, _, e, h, rfl⟩) ih
  · rw [List.all_map]; rfl
theorem OkG.all {c : Int} {gs : List (Int × Int)} (h : OkG c gs) : (gs.all fun g => pairB c g.1 g.2) = true := by
  rw [List.all_eq_true]
  intro g hg
  have := h.2.2 g hg
  simp [pairB, this]

section
variable {P : Program} {w : World} {K : PySem.W.Frag} {mg : Str → Option Value} {base : Heap} {tC : Tok}
theorem ok_is_whole {f : Addr} {fd : FuncData} (B : Blt mg tC) (Dis_whole : Def K mg "is_whole" s_is_whole ["value"] f fd) : FnOk P w K mg base CX0 1 f fd ["value"] spWhole := by
  refine Dis_whole.F.ok scis_whole (fun vs H Q E h => ?_) (fun cdv A outer s H vs Q E hr h => ⟨_, (pss_one (ps_ret (pe_and (pe_callB call_isi (by rfl) B.n_isinstance (by decide +kernel) (pa_cons (pv 0) (pa_cons (pe_bltn (v := .ty "int") (u := .type "int") (by rfl) B.n_int (by decide +kernel) rfl) pa_nil))) (pe_one (pe_not (pe_callB call_isi (by rfl) B.n_isinstance (by decide +kernel) (pa_cons (pv 0) (pa_cons (pe_bltn (v := .ty "bool") (u := .type "bool") (by rfl) B.n_bool (by decide +kernel) rfl) pa_nil)))))))), ?_⟩)
  · obtain ⟨i, rfl, _⟩ := h; rfl
  · obtain ⟨i, rfl, q⟩ := h
    refine ⟨_, rfl, .int i, .ty "int", .type "int", .type "int", true, rfl, .ty _, .base (.int i), kit_ty (by decide +kernel), _, rfl, ?_⟩
    refine ⟨_, rfl, .int i, .ty "bool", .type "int", .type "bool", false, rfl, .ty _, .base (.int i), kit_ty (by decide +kernel), _, rfl, q⟩
theorem ok_check_cycle {f f1 : Addr} {fd fd1 : FuncData} (B : Blt mg tC) (Dcheck_cycle : Def K mg "check_cycle" s_check_cycle ["cycle"] f fd) (Dis_whole : Def K mg "is_whole" s_is_whole ["value"] f1 fd1) : FnOk P w K mg base CX0 2 f fd ["cycle"] spCycle := by
  have Gis_whole := ok_is_whole (P := P) (w := w) (base := base) B Dis_whole
  refine Dcheck_cycle.F.ok sccheck_cycle (fun vs H Q E h => ?_) (fun cdv A outer s H vs Q E hr h => ⟨_, (pss_one (ps_if (PW.pt (pw_or (pt_not (pt_val (pe_call Gis_whole (hr.mono (by decide)) (by rfl) Dis_whole.g Dis_whole.F.kp Dis_whole.b .nil pass0 (pa_cons (pv 0) pa_nil)))) (pw_or1 (pt_not (pt_chain op_le op_le pe_int (pv 0) (pe_glob (v := .int (10 ^ 30)) (by rfl) B.MOST_CYCLE ⟨_, rfl⟩))))))
   (pss_one ps_never)
   pss_nil)), ?_⟩)
  · obtain ⟨i, rfl, _⟩ := h; rfl
  · obtain ⟨i, rfl, h1, h2, q⟩ := h
    refine ⟨_, rfl, _, rfl, _, rfl, ?_⟩
    refine ⟨_, rfl, _, _, rfl, rfl, _, rfl, ?_⟩
    rw [decide_eq_true h1]
    refine ⟨_, _, rfl, rfl, _, rfl, ?_⟩
    rw [decide_eq_true h2]
    exact q
theorem ok_check_moment {f f1 : Addr} {fd fd1 : FuncData} (B : Blt mg tC) (Dcheck_moment : Def K mg "check_moment" s_check_moment ["moment"] f fd) (Dis_whole : Def K mg "is_whole" s_is_whole ["value"] f1 fd1) : FnOk P w K mg base CX0 2 f fd ["moment"] spMoment := by
  have Gis_whole := ok_is_whole (P := P) (w := w) (base := base) B Dis_whole
  refine Dcheck_moment.F.ok sccheck_moment (fun vs H Q E h => ?_) (fun cdv A outer s H vs Q E hr h => ⟨_, (pss_one (ps_if (pt_not (pt_val (pe_call Gis_whole (hr.mono (by decide)) (by rfl) Dis_whole.g Dis_whole.F.kp Dis_whole.b .nil pass0 (pa_cons (pv 0) pa_nil))))
   (pss_one ps_never)
   pss_nil)), ?_⟩)
  · obtain ⟨i, rfl, _⟩ := h; rfl
  · obtain ⟨i, rfl, q⟩ := h
    exact ⟨_, rfl, _, rfl, _, rfl, q⟩
end
end Gr

set_option Elab.async false
set_option linter.all false
set_option pp.deepTerms false
set_option pp.maxSteps 3000
set_option maxRecDepth 100000
set_option maxHeartbeats 4000000
namespace Gr
open PySem PySem.Spec PyProof.Rows L2
theorem iteNT {c A B : Prop} [Decidable c] (hc : ¬ c) (h : A) : if (!decide c) = true then A else B := by
  rw [decide_eq_false hc]; exact iteT h
theorem iteY {c A B : Prop} [Decidable c] (hc : c) (h : A) : if (decide c) = true then A else B := by
  rw [decide_eq_true hc]; exact iteT h
theorem iteN {c A B : Prop} [Decidable c] (hc : ¬ c) (h : B) : if (decide c) = true then A else B := by
  rw [decide_eq_false hc]; exact iteF h
theorem chain_b {a b : Bool} {Q : V → Prop} (h : Q (.bl (a && b))) : ∃ k, V.bl a = .bl k ∧ (if k = true then Q (.bl b) else Q (.bl false)) := ⟨a, rfl, by cases a <;> exact h⟩
section
variable {P : Program} {w : World} {K : PySem.W.Frag} {mg : Str → Option Value} {base : Heap} {tC : Tok}
end
end Gr

set_option Elab.async false
set_option linter.all false
set_option pp.deepTerms false
set_option pp.maxSteps 3000
set_option maxRecDepth 100000
set_option maxHeartbeats 4000000
set_option exponentiation.threshold 3000
namespace Gr
open PySem PySem.Spec PyProof.Rows L2
def But (p : Addr) (H H' : Hp) : Prop := ∀ q o, q ≠ p → H q = some o → H' q = some o
theorem But.refl (p : Addr) (H : Hp) : But p H H := fun _ _ _ h => h
theorem But.trans {p : Addr} {H H1 H2 : Hp} (a : But p H H1) (b : But p H1 H2) : But p H H2 := fun q o n h => b q o n (a q o n h)
theorem Same.but {p : Addr} {H H' : Hp} (s : Same H H') : But p H H' := fun q o _ h => s q o h
theorem But.new {p q : Addr} {H H' : Hp} {o : HO} (s : But p H H') (h : H' q = none) : But p H (upd H' q o) := fun r u n e => by
  have := s r u n e
  rw [upd_ne (ne_of_none this h)]; exact this
theorem But.mut {p q : Addr} {H H' : Hp} {o : HO} (s : But p H H') (h : H q = none) : But p H (upd H' q o) := fun r u n e => by
  rw [upd_ne (ne_of_none e h)]; exact s r u n e
theorem But.at {p : Addr} {H H' : Hp} {o : HO} (s : But p H H') : But p H (upd H' p o) := fun r u n e => by
  rw [upd_ne n]; exact s r u n e
theorem But.fresh {p q : Addr} {H H' : Hp} {u : HO} (s : But p H H') (hp : H p = some u) (hp' : H' p ≠ none) (h : H' q = none) : H q = none := by
  cases e : H q with
  | none => rfl
  | some o =>
    by_cases hq : q = p
    · exact absurd (hq ▸ h) hp'
    · rw [s q o hq e] at h; cases h
theorem natAbs_lt {i : Int} {k : Nat} (h0 : 0 ≤ i) (h : i < ((2 ^ k : Nat) : Int)) : i.natAbs < 2 ^ k := by omega
theorem e60 : ((10 : Int) ^ 60) < ((2 ^ 200 : Nat) : Int) := by decide +kernel
theorem e100 : ((10 : Int) ^ 100) < ((2 ^ 1000 : Nat) : Int) := by decide +kernel
theorem draw_ok {m : Int} (h1 : 1 ≤ m) (h2 : m ≤ 10 ^ 100) : m.natAbs < 2 ^ 1000 := natAbs_lt (by omega) (Int.lt_of_le_of_lt h2 e100)
theorem fmod_rng {x m : Int} (h : 1 ≤ m) : 0 ≤ x.fmod m ∧ x.fmod m < m := by
  rw [Int.fmod_eq_emod_of_nonneg x (by omega)]
  exact ⟨Int.emod_nonneg x (by omega), Int.emod_lt_of_pos x (by omega)⟩
theorem cp30 : CPowW 10 30 := ⟨by decide, by decide +kernel⟩
theorem cp42 : CPowW 10 42 := ⟨by decide, by decide +kernel⟩
theorem cp44 : CPowW 10 44 := ⟨by decide, by decide +kernel⟩
theorem cube_of {i : Int} (h0 : 0 ≤ i) (h : i < ((2 ^ 1000 : Nat) : Int)) : CPowW i 3 := cube_ok (natAbs_lt h0 h)
theorem mulc {k c : Int} (h0 : 0 ≤ k) (h1 : k < ((2 ^ 40 : Nat) : Int)) (c0 : 0 ≤ c) (c1 : c ≤ 10 ^ 10) : CMulW k c := by
  have e : ((10 : Int) ^ 10) < ((2 ^ 40 : Nat) : Int) := by decide +kernel
  exact wide_mul (a := 40) (b := 40) (natAbs_lt h0 h1) (natAbs_lt c0 (by omega)) (by decide) (by decide) (by decide)
def pairD (g : Int × Int) : PyData := .tuple [.int g.1, .int g.2]
theorem lay_pairs : ∀ gs : List (Int × Int), PyData.canLayAll0 (gs.map pairD) = true
  | [] => by simp [PyData.canLayAll0]
  | g :: gs => by simp [PyData.canLayAll0, PyData.canLay0, pairD, lay_pairs gs]
theorem depth_pairs : ∀ gs : List (Int × Int), PyData.depthAll (gs.map pairD) ≤ 5
  | [] => by simp [PyData.depthAll]
  | g :: gs => by
    have := depth_pairs gs
    simp only [List.map_cons, PyData.depthAll, PyData.depth, pairD]
    omega
theorem shaped_pairs (gs : List (Int × Int)) : SeqAt.shaped (.list (gs.map pairD)) = true := by
  have h := depth_pairs gs
  unfold SeqAt.shaped
  rw [Bool.and_eq_true]
  refine ⟨by simpa only [PyData.canLay0] using lay_pairs gs, decide_eq_true ?_⟩
  simp only [PyData.depth]
  omega
theorem shaped_nil : SeqAt.shaped (.list []) = true := by decide +kernel
theorem eqv_nil : ∀ gs : List (Int × Int), PyData.eqv (.list (gs.map pairD)) (.list []) = gs.isEmpty
  | [] => by simp [PyData.eqv, PyData.eqvAll]
  | g :: gs => by simp [PyData.eqv, PyData.eqvAll]
theorem dp_pairs {K : PySem.W.Frag} {H : Hp} {xs : List V} {gs : List (Int × Int)} (h : Paired (GrAt H) xs gs) : DpAll K H xs (gs.map pairD) := by
  induction h with
  | nil => exact .nil
  | cons r t ih =>
    obtain ⟨b, rfl, h⟩ := r
    exact .cons (.tup (SqT.of h) (.cons (.int _) (.cons (.int _) .nil))) ih
theorem pick {xs : List Int} {r : Int} (h0 : 0 ≤ r) (h1 : r < (xs.length : Int)) : ∃ v ∈ xs, atI (xs.map V.int) r = some (.int v) := by
  obtain ⟨j, rfl⟩ : ∃ j : Nat, r = (j : Int) := ⟨r.toNat, (Int.toNat_of_nonneg h0).symm⟩
  have hl : j < xs.length := by omega
  refine ⟨xs[j], List.getElem_mem hl, atI_nat ?_⟩
  rw [List.getElem?_map, List.getElem?_eq_getElem hl]
  rfl
theorem GrAt.but {p : Addr} {H H' : Hp} {us : List V} (s : But p H H') (hp : H p = some (.lst us)) {x : V} {g : Int × Int} (h : GrAt H x g) : GrAt H' x g := by
  obtain ⟨b, e, h⟩ := h
  exact ⟨b, e, s b _ (ne_of h hp (fun z => nomatch z)) h⟩
theorem grs_but {p : Addr} {H H' : Hp} {us : List V} (s : But p H H') (hp : H p = some (.lst us)) {xs : List V} {gs : List (Int × Int)} (h : Paired (GrAt H) xs gs) : Paired (GrAt H') xs gs := L2.Paired.mapP h fun _ _ r => r.but s hp
theorem grs_same {H H' : Hp} (s : Same H H') {xs : List V} {gs : List (Int × Int)} (h : Paired (GrAt H) xs gs) : Paired (GrAt H') xs gs := L2.Paired.mapP h fun _ _ ⟨b, e, h⟩ => ⟨b, e, s _ _ h⟩
theorem SigT.but {p g : Addr} {H H' : Hp} {us : List V} (s : But p H H') (hp : H p = some (.lst us)) {gs : List (Int × Int)} (h : SigT H g gs) : SigT H' g gs := by
  obtain ⟨xs, h1, h2⟩ := h
  exact ⟨xs, s g _ (ne_of h1 hp (fun z => nomatch z)) h1, grs_but s hp h2⟩
theorem paired_snoc {α β : Type} {R : α → β → Prop} : ∀ {xs : List α} {ys : List β} {x : α} {y : β}, Paired R xs ys → R x y → Paired R (xs ++ [x]) (ys ++ [y])
  | _, _, _, _, .nil, r => .cons r .nil
  | _, _, _, _, .cons q t, r => .cons q (paired_snoc t r)
theorem emod_two {x s : Int} (h0 : -s ≤ x) (h1 : x < 2 * s) (hs : 0 < s) : x % s = if x < 0 then x + s else if x < s then x else x - s := by
  by_cases a : x < 0
  · rw [if_pos a, ← Int.add_emod_right, Int.emod_eq_of_lt (by omega) (by omega)]
  · rw [if_neg a]
    by_cases b : x < s
    · rw [if_pos b, Int.emod_eq_of_lt (by omega) b]
    · rw [if_neg b, ← Int.sub_emod_right, Int.emod_eq_of_lt (by omega) (by omega)]
theorem rest_eq {t o j s : Int} (t0 : 0 ≤ t) (t1 : t < s) (o0 : 0 ≤ o) (o1 : o < s) (j0 : 0 ≤ j) (j1 : j < s) : ((t - o) % s = j) ↔ t = (o + j) % s := by
  rw [emod_two (x := t - o) (s := s) (by omega) (by omega) (by omega), emod_two (x := o + j) (s := s) (by omega) (by omega) (by omega)]
  split <;> split <;> (try split) <;> omega
def scal2 (f : Int) (gs : List (Int × Int)) : List (Int × Int) := gs.map fun g => (g.1 * f, g.2 * f)
theorem mul30 {i j : Int} (i0 : 0 ≤ i) (i1 : i ≤ 10 ^ 30) (j0 : 0 ≤ j) (j1 : j ≤ 10 ^ 30) : CMulW i j := by
  have e : (10 : Int) ^ 30 < ((2 ^ 100 : Nat) : Int) := by decide +kernel
  exact wide_mul (a := 100) (b := 100) (natAbs_lt i0 (by omega)) (natAbs_lt j0 (by omega)) (by decide) (by decide) (by decide)
theorem mulBig {i j : Int} (i0 : i.natAbs < 2 ^ 1000) (j0 : j.natAbs < 2 ^ 1000) : CMulW i j := wide_mul (a := 1000) (b := 1000) i0 j0 (by decide) (by decide) (by decide)
theorem lit_mod (s : Int) (gs : List (Int × Int)) (t : Int) : lit s gs (t % s) = lit s gs t := by
  unfold lit
  congr 1
  funext g
  rw [Int.emod_sub_emod]
theorem lit_far (s : Int) (gs : List (Int × Int)) (t k : Int) : lit s gs (t + k * s) = lit s gs t := by
  rw [← lit_mod s gs (t + k * s), Int.add_mul_emod_self_right, lit_mod]
theorem lit_scal {s f : Int} (gs : List (Int × Int)) (x r : Int) (hs : 0 < s) (hf : 0 < f) (r0 : 0 ≤ r) (r1 : r < f) : lit (s * f) (scal2 f gs) (x * f + r) = lit s gs x := by
  unfold lit scal2
  rw [List.any_map]
  congr 1
  funext g
  show decide ((x * f + r - g.1 * f) % (s * f) < g.2 * f) = decide ((x - g.1) % s < g.2)
  have e : (x * f + r - g.1 * f) % (s * f) = ((x - g.1) % s) * f + r := by
    have h1 : x * f + r - g.1 * f = (((x - g.1) % s) * f + r) + (s * f) * ((x - g.1) / s) := by
      have := Int.emod_add_mul_ediv (x - g.1) s
      have h2 : (x - g.1) * f = ((x - g.1) % s + s * ((x - g.1) / s)) * f := by rw [this]
      rw [Int.sub_mul, Int.add_mul] at h2
      have h3 : s * ((x - g.1) / s) * f = s * f * ((x - g.1) / s) := by rw [Int.mul_right_comm]
      omega
    rw [h1, Int.add_mul_emod_self_left]
    have m0 := Int.emod_nonneg (x - g.1) (show s ≠ 0 by omega)
    have m1 := Int.emod_lt_of_pos (x - g.1) hs
    have a : ((x - g.1) % s) * f ≥ 0 := Int.mul_nonneg m0 (by omega)
    have b : ((x - g.1) % s + 1) * f ≤ s * f := Int.mul_le_mul_of_nonneg_right (by omega) (by omega)
    rw [Int.add_mul, Int.one_mul] at b
    exact Int.emod_eq_of_lt (by omega) (by omega)
  rw [e]
  congr 1
  apply propext
  constructor
  · intro h
    have : ((x - g.1) % s) * f < g.2 * f := by omega
    exact Int.lt_of_mul_lt_mul_right this (by omega)
  · intro h
    have b : ((x - g.1) % s + 1) * f ≤ g.2 * f := Int.mul_le_mul_of_nonneg_right (by omega) (by omega)
    rw [Int.add_mul, Int.one_mul] at b
    omega
theorem textFrom_le : ∀ (ts : List Str) (k : Nat) (acc : Str), (∀ t ∈ ts, t.length ≤ 5) → (textFrom k acc ts).length ≤ acc.length + 7 * ts.length
  | [], k, acc, _ => Nat.le_refl _
  | t :: r, k, acc, h => by
    have ih := textFrom_le r (k + 1) (acc ++ (if k > 0 then ", " else "" : String) ++ t) (fun x hx => h x (List.mem_cons_of_mem _ hx))
    have e : (acc ++ (if k > 0 then ", " else "" : String) ++ t).length ≤ acc.length + 2 + 5 := by
      rw [strLen_append, strLen_append]
      have := h t List.mem_cons_self
      have z : (Str.ofString (if k > 0 then ", " else "" : String)).length ≤ 2 := by split <;> decide
      omega
    show (textFrom (k + 1) (acc ++ (if k > 0 then ", " else "" : String) ++ t) r).length ≤ _
    rw [List.length_cons]
    omega
def boolsD (bs : List Bool) : PyData := .list (bs.map PyData.bool)
theorem shownAll_b : ∀ bs : List Bool, (∀ t ∈ PyData.shownAll (bs.map PyData.bool), t.length ≤ 5) ∧ (PyData.shownAll (bs.map PyData.bool)).length = bs.length
  | [] => ⟨fun _ h => by simp [PyData.shownAll] at h, rfl⟩
  | b :: bs => by
    have ih := shownAll_b bs
    refine ⟨fun t h => ?_, by simpa [PyData.shownAll] using ih.2⟩
    simp only [List.map_cons, PyData.shownAll, List.mem_cons] at h
    rcases h with rfl | h
    · cases b <;> decide
    · exact ih.1 t h
theorem bools_len (bs : List Bool) (h : bs.length ≤ 10000) : (boolsD bs).shown.length ≤ sizeLine := by
  have h1 := shownAll_b bs
  have h2 := textFrom_le _ 0 "[" h1.1
  have e : (boolsD bs).shown = textFrom 0 "[" (PyData.shownAll (bs.map PyData.bool)) ++ "]" := by
    unfold boolsD
    simp only [PyData.shown, listText]
  rw [e, strLen_append]
  rw [h1.2] at h2
  have z1 : (Str.ofString "[").length = 1 := by decide
  have z2 : (Str.ofString "]").length = 1 := by decide
  rw [z1] at h2
  rw [z2, sizeLine_eq]
  omega
theorem bools_show : ∀ bs : List Bool, (boolsD bs).showable = true ∧ (boolsD bs).hasDict = false ∧ (boolsD bs).depth ≤ 40 := fun bs => by
  have a : PyData.showableAll (bs.map PyData.bool) = true := by
    induction bs with
    | nil => simp [PyData.showableAll]
    | cons b r ih => simp [PyData.showableAll, PyData.showable, ih]
  have b : PyData.hasDictAll (bs.map PyData.bool) = false := by
    induction bs with
    | nil => simp [PyData.hasDictAll]
    | cons b r ih => simp [PyData.hasDictAll, PyData.hasDict] ; simp [PyData.showableAll, PyData.showable] at a; exact ih a
  have c : PyData.depthAll (bs.map PyData.bool) ≤ 5 := by
    clear a b
    induction bs with
    | nil => simp [PyData.depthAll]
    | cons b r ih => simp only [List.map_cons, PyData.depthAll, PyData.depth]; omega
  unfold boolsD
  refine ⟨by simpa only [PyData.showable] using a, by simpa only [PyData.hasDict] using b, ?_⟩
  simp only [PyData.depth]
  omega
theorem dp_bools {K : PySem.W.Frag} {H : Hp} : ∀ bs : List Bool, DpAll K H (bs.map V.bl) (bs.map PyData.bool)
  | [] => .nil
  | b :: bs => .cons (.bl b) (dp_bools bs)
end Gr

set_option Elab.async false
set_option linter.all false
set_option pp.deepTerms false
set_option pp.maxSteps 3000
set_option maxRecDepth 100000
set_option maxHeartbeats 4000000
namespace Gr
open PySem PySem.Spec PyProof.Rows L2
/-! ### the longest stretches: one list alone -/
/-- a longest stretch of f, begun within the first cycle -/
def IsArc (c : Int) (f : Int → Bool) (g : Int × Int) : Prop :=
  0 ≤ g.1 ∧ g.1 < c ∧ 1 ≤ g.2 ∧ f (g.1 - 1) = false ∧ (∀ j, 0 ≤ j → j < g.2 → f (g.1 + j) = true) ∧ f (g.1 + g.2) = false
def Canon (c : Int) (f : Int → Bool) (A : List (Int × Int)) : Prop :=
  ((∀ t, f t = true) ∧ A = [(0, c)]) ∨ ((∃ t, f t = false) ∧ A.Pairwise (fun a b => a.1 < b.1) ∧ ∀ g, g ∈ A ↔ IsArc c f g)
theorem sorted_ext : ∀ {A B : List (Int × Int)}, A.Pairwise (fun a b => a.1 < b.1) → B.Pairwise (fun a b => a.1 < b.1) → (∀ g, g ∈ A ↔ g ∈ B) → A = B
  | [], [], _, _, _ => rfl
  | [], b :: B, _, _, h => absurd ((h b).mpr List.mem_cons_self) (by simp)
  | a :: A, [], _, _, h => absurd ((h a).mp List.mem_cons_self) (by simp)
  | a :: A, b :: B, hA, hB, h => by
    have hA' := List.pairwise_cons.mp hA
    have hB' := List.pairwise_cons.mp hB
    have e : a = b := by
      rcases List.mem_cons.mp ((h a).mp List.mem_cons_self) with e | e
      · exact e
      · rcases List.mem_cons.mp ((h b).mpr List.mem_cons_self) with e' | e'
        · exact e'.symm
        · have h1 := hB'.1 a e
          have h2 := hA'.1 b e'
          omega
    subst e
    congr 1
    refine sorted_ext hA'.2 hB'.2 fun g => ⟨fun hg => ?_, fun hg => ?_⟩
    · rcases List.mem_cons.mp ((h g).mp (List.mem_cons_of_mem _ hg)) with e | e
      · subst e; have := hA'.1 g hg; omega
      · exact e
    · rcases List.mem_cons.mp ((h g).mpr (List.mem_cons_of_mem _ hg)) with e | e
      · subst e; have := hB'.1 g hg; omega
      · exact e
theorem Canon.uniq {c : Int} {f : Int → Bool} {A B : List (Int × Int)} (hA : Canon c f A) (hB : Canon c f B) : A = B := by
  rcases hA with ⟨a1, a2⟩ | ⟨⟨t, a1⟩, a2, a3⟩
  · rcases hB with ⟨b1, b2⟩ | ⟨⟨t, b1⟩, b2, b3⟩
    · rw [a2, b2]
    · rw [a1 t] at b1; cases b1
  · rcases hB with ⟨b1, b2⟩ | ⟨⟨t, b1⟩, b2, b3⟩
    · rw [b1 t] at a1; cases a1
    · exact sorted_ext a2 b2 fun g => (a3 g).trans (b3 g).symm
theorem Canon.to {c : Int} {f h : Int → Bool} {A : List (Int × Int)} (hA : Canon c f A) (e : ∀ t, f t = h t) : Canon c h A := by
  have : f = h := funext e
  rw [← this]; exact hA
theorem lit_iff {c t : Int} {A : List (Int × Int)} : lit c A t = true ↔ ∃ g ∈ A, (t - g.1) % c < g.2 := by
  unfold lit
  rw [List.any_eq_true]
  constructor
  · rintro ⟨g, h1, h2⟩; exact ⟨g, h1, of_decide_eq_true h2⟩
  · rintro ⟨g, h1, h2⟩; exact ⟨g, h1, decide_eq_true h2⟩
theorem lit_no {c t : Int} {A : List (Int × Int)} : lit c A t = false ↔ ∀ g ∈ A, ¬ (t - g.1) % c < g.2 := by
  rw [← Bool.not_eq_true, lit_iff]
  exact ⟨fun h g hg z => h ⟨g, hg, z⟩, fun h ⟨g, hg, z⟩ => h g hg z⟩
/-- greens with a red moment behind each -/
structure Sep (c : Int) (A : List (Int × Int)) : Prop where
  up : A.Pairwise (fun a b => a.1 < b.1)
  rng : ∀ g ∈ A, 0 ≤ g.1 ∧ g.1 < c ∧ 1 ≤ g.2 ∧ g.2 < c
  gap : ∀ g ∈ A, ∀ h ∈ A, g ≠ h → g.2 < (h.1 - g.1) % c
theorem Sep.behind {c : Int} {A : List (Int × Int)} (S : Sep c A) {g : Int × Int} (hg : g ∈ A) : lit c A (g.1 + g.2) = false := lit_no.mpr fun h hh z => by
  have r1 := S.rng g hg
  have r2 := S.rng h hh
  by_cases e : g = h
  · subst e
    rw [Int.emod_eq_of_lt (by omega) (by omega)] at z
    omega
  · have g1 := S.gap g hg h hh e
    have g2 := S.gap h hh g hg (fun z => e z.symm)
    rw [emod_two (by omega) (by omega) (by omega)] at z g1 g2
    split at z <;> split at g1 <;> split at g2 <;> (try split at z) <;> (try split at g1) <;> (try split at g2) <;> omega
theorem Sep.ahead {c : Int} {A : List (Int × Int)} (S : Sep c A) {g : Int × Int} (hg : g ∈ A) : lit c A (g.1 - 1) = false := lit_no.mpr fun h hh z => by
  have r1 := S.rng g hg
  have r2 := S.rng h hh
  by_cases e : g = h
  · subst e
    rw [emod_two (by omega) (by omega) (by omega)] at z
    split at z <;> (try split at z) <;> omega
  · have g2 := S.gap h hh g hg (fun z => e z.symm)
    rw [emod_two (by omega) (by omega) (by omega)] at z g2
    split at z <;> split at g2 <;> (try split at z) <;> (try split at g2) <;> omega
theorem Sep.canon {c : Int} {A : List (Int × Int)} (S : Sep c A) (ne : A ≠ []) : Canon c (lit c A) A := by
  refine .inr ⟨?_, S.up, fun g => ⟨fun hg => ?_, fun ha => ?_⟩⟩
  · match A, ne, S with
    | g :: r, _, S => exact ⟨_, S.behind (List.mem_cons_self)⟩
  · have r := S.rng g hg
    refine ⟨r.1, r.2.1, r.2.2.1, S.ahead hg, fun j j0 j1 => lit_iff.mpr ⟨g, hg, ?_⟩, S.behind hg⟩
    rw [Int.emod_eq_of_lt (by omega) (by omega)]
    omega
  · obtain ⟨o, l⟩ := g
    obtain ⟨h1, h2, h3, h4, h5, h6⟩ := ha
    simp only at h1 h2 h3 h4 h5 h6
    have h50 := h5 0 (by omega) (by omega)
    rw [Int.add_zero] at h50
    obtain ⟨h, hh, z⟩ := lit_iff.mp h50
    have r := S.rng h hh
    have e : o = h.1 := by
      refine Decidable.byContradiction fun e => ?_
      refine lit_no.mp h4 h hh ?_
      rw [emod_two (by omega) (by omega) (by omega)] at z ⊢
      split at z <;> split <;> (try split at z) <;> (try split) <;> omega
    have e2 : l = h.2 := by
      subst e
      rcases Int.lt_trichotomy l h.2 with a | a | a
      · refine absurd ?_ (lit_no.mp h6 h hh)
        rw [Int.emod_eq_of_lt (by omega) (by omega)]
        omega
      · exact a
      · have b := h5 h.2 (by omega) a
        rw [S.behind hh] at b
        cases b
    rw [e, e2]; exact hh
/-! ### joined from the left -/
def Cov (A : List (Int × Int)) (x : Int) : Prop := ∃ g ∈ A, g.1 ≤ x ∧ x < g.1 + g.2
theorem lit_lin {c t : Int} {A : List (Int × Int)} (hc : 0 < c) : lit c A t = true ↔ ∃ k : Int, Cov A (t + c * k) := by
  rw [lit_iff]
  constructor
  · rintro ⟨g, hg, h⟩
    refine ⟨-((t - g.1) / c), g, hg, ?_⟩
    have h1 := Int.emod_add_mul_ediv (t - g.1) c
    have h2 := Int.emod_nonneg (t - g.1) (show c ≠ 0 by omega)
    rw [Int.mul_neg]
    omega
  · rintro ⟨k, g, hg, h⟩
    refine ⟨g, hg, ?_⟩
    have e : (t - g.1) % c = (t + c * k - g.1) % c := by
      rw [show t + c * k - g.1 = (t - g.1) + c * k by omega, Int.add_mul_emod_self_left]
    rw [e]
    have h1 := Int.emod_add_mul_ediv (t + c * k - g.1) c
    have h2 : 0 ≤ (t + c * k - g.1) / c := Int.ediv_nonneg (by omega) (by omega)
    have h3 : 0 ≤ c * ((t + c * k - g.1) / c) := Int.mul_nonneg (by omega) h2
    omega
structure Jn (c : Int) (pre J : List (Int × Int)) : Prop where
  sep : J.Pairwise (fun a b => a.1 + a.2 < b.1)
  rng : ∀ g ∈ J, 0 ≤ g.1 ∧ g.1 < c ∧ 1 ≤ g.2 ∧ g.1 + g.2 ≤ 2 * c
  cov : ∀ x, Cov J x ↔ Cov pre x
  beg : ∀ g ∈ J, ∃ p ∈ pre, g.1 = p.1
  len : J.length ≤ pre.length
  any : pre ≠ [] → J ≠ []
theorem Jn.nil (c : Int) : Jn c [] [] := ⟨List.Pairwise.nil, fun _ h => (List.not_mem_nil h).elim, fun _ => Iff.rfl, fun _ h => (List.not_mem_nil h).elim, Nat.le_refl _, fun h => h⟩
theorem cov_app {A B : List (Int × Int)} {x : Int} : Cov (A ++ B) x ↔ Cov A x ∨ Cov B x := by
  unfold Cov
  constructor
  · rintro ⟨g, hg, h⟩
    rcases List.mem_append.mp hg with z | z
    · exact .inl ⟨g, z, h⟩
    · exact .inr ⟨g, z, h⟩
  · rintro (⟨g, hg, h⟩ | ⟨g, hg, h⟩)
    · exact ⟨g, List.mem_append.mpr (.inl hg), h⟩
    · exact ⟨g, List.mem_append.mpr (.inr hg), h⟩
theorem cov_one {g : Int × Int} {x : Int} : Cov [g] x ↔ g.1 ≤ x ∧ x < g.1 + g.2 := by
  unfold Cov
  constructor
  · rintro ⟨h, hh, z⟩; rw [List.mem_singleton.mp hh] at z; exact z
  · intro z; exact ⟨g, List.mem_singleton.mpr rfl, z⟩
theorem Jn.app {c : Int} {pre J : List (Int × Int)} {g : Int × Int} (h : Jn c pre J) (hg : 0 ≤ g.1 ∧ g.1 < c ∧ 1 ≤ g.2 ∧ g.2 ≤ c) (far : ∀ b ∈ J, b.1 + b.2 < g.1) : Jn c (pre ++ [g]) (J ++ [g]) where
  sep := List.pairwise_append.mpr ⟨h.sep, List.pairwise_singleton _ _, fun a ha b hb => by rw [List.mem_singleton.mp hb]; exact far a ha⟩
  rng := fun b hb => by
    rcases List.mem_append.mp hb with z | z
    · exact h.rng b z
    · rw [List.mem_singleton.mp z]; omega
  cov := fun x => by rw [cov_app, cov_app, h.cov]
  beg := fun b hb => by
    rcases List.mem_append.mp hb with z | z
    · obtain ⟨p, hp, e⟩ := h.beg b z
      exact ⟨p, List.mem_append.mpr (.inl hp), e⟩
    · rw [List.mem_singleton.mp z]; exact ⟨g, by simp, rfl⟩
  len := by have := h.len; simp; omega
  any := fun _ => by simp
theorem Jn.ext {c : Int} {pre K : List (Int × Int)} {b g : Int × Int} {m : Int} (h : Jn c pre (K ++ [b])) (hg : 0 ≤ g.1 ∧ g.1 < c ∧ 1 ≤ g.2 ∧ g.2 ≤ c) (after : b.1 ≤ g.1) (near : g.1 ≤ b.1 + b.2) (m1 : b.2 ≤ m) (m2 : g.1 + g.2 - b.1 ≤ m) (m3 : m = b.2 ∨ m = g.1 + g.2 - b.1) :
    Jn c (pre ++ [g]) (K ++ [(b.1, m)]) where
  sep := by
    obtain ⟨h1, h2, h3⟩ := List.pairwise_append.mp h.sep
    exact List.pairwise_append.mpr ⟨h1, List.pairwise_singleton _ _, fun a ha z hz => by rw [List.mem_singleton.mp hz]; exact h3 a ha b (by simp)⟩
  rng := fun z hz => by
    have hb := h.rng b (by simp)
    rcases List.mem_append.mp hz with y | y
    · exact h.rng z (List.mem_append.mpr (.inl y))
    · rw [List.mem_singleton.mp y]; simp only; omega
  cov := fun x => by
    have := h.cov x
    rw [cov_app, cov_one] at this
    rw [cov_app, cov_app, cov_one, cov_one, ← this]
    simp only
    constructor
    · rintro (z | z)
      · exact .inl (.inl z)
      · by_cases y : x < b.1 + b.2
        · exact .inl (.inr ⟨z.1, y⟩)
        · exact .inr (by omega)
    · rintro ((z | z) | z)
      · exact .inl z
      · exact .inr (by omega)
      · exact .inr (by omega)
  beg := fun z hz => by
    rcases List.mem_append.mp hz with y | y
    · obtain ⟨p, hp, e⟩ := h.beg z (List.mem_append.mpr (.inl y))
      exact ⟨p, List.mem_append.mpr (.inl hp), e⟩
    · rw [List.mem_singleton.mp y]
      obtain ⟨p, hp, e⟩ := h.beg b (by simp)
      exact ⟨p, List.mem_append.mpr (.inl hp), e⟩
  len := by have := h.len; simp at this ⊢; omega
  any := fun _ => by simp
/-! ### over the end -/
theorem pw_two {α : Type} {R : α → α → Prop} : ∀ {A : List α}, A.Pairwise R → ∀ g ∈ A, ∀ k ∈ A, g ≠ k → R g k ∨ R k g
  | [], _, _, hg, _, _, _ => (List.not_mem_nil hg).elim
  | a :: A, h, g, hg, k, hk, ne => by
    have h' := List.pairwise_cons.mp h
    rcases List.mem_cons.mp hg with e | e
    · rcases List.mem_cons.mp hk with y | y
      · exact absurd (e.trans y.symm) ne
      · subst e; exact .inl (h'.1 k y)
    · rcases List.mem_cons.mp hk with y | y
      · subst y; exact .inr (h'.1 g e)
      · exact pw_two h'.2 g e k y ne
theorem filter_parts (p : Int × Int → Bool) : ∀ K : List (Int × Int), K.Pairwise (fun a b => p b = true → p a = true) → K.filter p ++ K.drop (K.filter p).length = K ∧ ∀ g ∈ K.drop (K.filter p).length, p g = false
  | [], _ => ⟨rfl, fun _ h => (List.not_mem_nil h).elim⟩
  | g :: K, h => by
    have h' := List.pairwise_cons.mp h
    cases e : p g with
    | true =>
      have ih := filter_parts p K h'.2
      rw [List.filter_cons_of_pos e]
      simp only [List.length_cons, List.drop_succ_cons, List.cons_append]
      exact ⟨by rw [ih.1], ih.2⟩
    | false =>
      have none : ∀ x ∈ K, p x = false := fun x hx => by
        cases ex : p x with
        | false => rfl
        | true => rw [h'.1 x hx ex] at e; cases e
      have fe : (g :: K).filter p = [] := List.filter_eq_nil_iff.mpr fun x hx => by
        rcases List.mem_cons.mp hx with z | z
        · rw [z, e]; simp
        · rw [none x z]; simp
      rw [fe]
      refine ⟨rfl, fun x hx => ?_⟩
      rcases List.mem_cons.mp hx with z | z
      · rw [z]; exact e
      · exact none x z
theorem over_end {c b r R : Int} {pre K met rest : List (Int × Int)} (hc : 0 < c) (h : Jn c pre (K ++ [(b, r)])) (eK : K = met ++ rest) (hm : ∀ g ∈ met, g.1 + c ≤ b + r) (hr : ∀ g ∈ rest, b + r < g.1 + c)
    (R0 : r ≤ R) (R1 : ∀ g ∈ met, g.1 + c + g.2 - b ≤ R) (R2 : R = r ∨ ∃ g ∈ met, R = g.1 + c + g.2 - b) :
    (c ≤ R → ∀ t, lit c pre t = true) ∧ (R < c → Sep c (rest ++ [(b, R)]) ∧ ∀ t, lit c (rest ++ [(b, R)]) t = lit c pre t) := by
  obtain ⟨s1, s2, s3⟩ := List.pairwise_append.mp h.sep
  have hb := h.rng (b, r) (by simp)
  simp only at hb
  have inK : ∀ g ∈ K, 0 ≤ g.1 ∧ g.1 + g.2 < b ∧ 1 ≤ g.2 := fun g hg => by
    have a := h.rng g (List.mem_append.mpr (.inl hg))
    have d := s3 g hg (b, r) (by simp)
    simp only at d
    omega
  have litJ : ∀ t, lit c pre t = true ↔ ∃ k : Int, Cov (K ++ [(b, r)]) (t + c * k) := fun t => by
    rw [lit_lin hc]
    exact ⟨fun ⟨k, z⟩ => ⟨k, (h.cov _).mpr z⟩, fun ⟨k, z⟩ => ⟨k, (h.cov _).mp z⟩⟩
  have pull : ∀ x, b ≤ x → x < b + R → ∃ k : Int, Cov (K ++ [(b, r)]) (x + c * k) := fun x x0 x1 => by
    by_cases y : x < b + r
    · exact ⟨0, (b, r), by simp, by simp only; omega⟩
    · rcases R2 with e | ⟨m, hmm, e⟩
      · omega
      · have m1 := hm m hmm
        refine ⟨-1, m, ?_, by omega⟩
        rw [eK]; simp [hmm]
  have shift : ∀ t k : Int, (∃ k', Cov (K ++ [(b, r)]) (t + c * k + c * k')) → lit c pre t = true := fun t k ⟨k', z⟩ => (litJ t).mpr ⟨k + k', by rw [Int.mul_add, ← Int.add_assoc]; exact z⟩
  refine ⟨fun hR t => ?_, fun hR => ⟨?_, fun t => ?_⟩⟩
  · have h1 := Int.emod_add_mul_ediv (t - b) c
    have h2 := Int.emod_nonneg (t - b) (show c ≠ 0 by omega)
    have h3 := Int.emod_lt_of_pos (t - b) hc
    have e : t + c * -((t - b) / c) = b + (t - b) % c := by rw [Int.mul_neg]; omega
    exact shift t (-((t - b) / c)) (by rw [e]; exact pull _ (by omega) (by omega))
  · have sub : ∀ g ∈ rest, g ∈ K := fun g hg => by rw [eK]; simp [hg]
    have sr : rest.Pairwise (fun a b => a.1 + a.2 < b.1) := by rw [eK] at s1; exact (List.pairwise_append.mp s1).2.1
    have metrest : ∀ m ∈ met, ∀ g ∈ rest, m.1 + m.2 < g.1 := by rw [eK] at s1; exact (List.pairwise_append.mp s1).2.2
    have past : ∀ g ∈ rest, b + R < g.1 + c := fun g hg => by
      rcases R2 with e | ⟨m, hmm, e⟩
      · have := hr g hg; omega
      · have := metrest m hmm g hg; omega
    have two : ∀ g ∈ rest, ∀ k ∈ rest, g ≠ k → g.1 + g.2 < k.1 ∨ k.1 + k.2 < g.1 := fun g hg k hk ne => by
      exact pw_two sr g hg k hk ne
    refine ⟨?_, fun g hg => ?_, fun g hg k hk ne => ?_⟩
    · refine List.pairwise_append.mpr ⟨List.Pairwise.imp_of_mem (fun {a b} ha hb z => by have := inK a (sub a ha); omega) sr, List.pairwise_singleton _ _, fun a ha z hz => ?_⟩
      rw [List.mem_singleton.mp hz]
      have := inK a (sub a ha)
      simp only; omega
    · rcases List.mem_append.mp hg with z | z
      · have := inK g (sub g z); omega
      · rw [List.mem_singleton.mp z]; simp only; omega
    · rcases List.mem_append.mp hg with z | z
      · have a1 := inK g (sub g z)
        rcases List.mem_append.mp hk with y | y
        · have a2 := inK k (sub k y)
          rw [emod_two (by omega) (by omega) (by omega)]
          have := two g z k y ne
          split <;> (try split) <;> omega
        · rw [List.mem_singleton.mp y]
          simp only
          rw [emod_two (by omega) (by omega) (by omega)]
          split <;> (try split) <;> omega
      · have eg := List.mem_singleton.mp z
        rcases List.mem_append.mp hk with y | y
        · have a2 := inK k (sub k y)
          have a3 := past k y
          rw [eg]
          simp only
          rw [emod_two (by omega) (by omega) (by omega)]
          split <;> (try split) <;> omega
        · exact absurd (eg.trans (List.mem_singleton.mp y).symm) ne
  · have iff : lit c (rest ++ [(b, R)]) t = true ↔ lit c pre t = true := by
      constructor
      · intro z
        obtain ⟨k, z⟩ := (lit_lin hc).mp z
        rcases cov_app.mp z with ⟨g, hg, y⟩ | y
        · exact (litJ t).mpr ⟨k, g, by rw [eK]; simp [hg], y⟩
        · have y' := cov_one.mp y
          exact shift t k (pull _ y'.1 y'.2)
      · intro z
        obtain ⟨k, g, hg, y⟩ := (litJ t).mp z
        refine (lit_lin hc).mpr ?_
        rcases List.mem_append.mp hg with x | x
        · rw [eK] at x
          rcases List.mem_append.mp x with x | x
          · refine ⟨k + 1, (b, R), by simp, ?_⟩
            have := R1 g x
            have := inK g (by rw [eK]; simp [x])
            rw [Int.mul_add, Int.mul_one]
            simp only; omega
          · exact ⟨k, g, by simp [x], y⟩
        · rw [List.mem_singleton.mp x] at y
          exact ⟨k, (b, R), by simp, by simp only at y ⊢; omega⟩
    cases e : lit c pre t with
    | true => exact iff.mpr e
    | false =>
      cases e2 : lit c (rest ++ [(b, R)]) t with
      | false => rfl
      | true => rw [iff.mp e2] at e; cases e
/-! ### scaled -/
theorem div_rest {f x : Int} (hf : 0 < f) : x = x / f * f + x % f := by
  have := Int.emod_add_mul_ediv x f
  rw [Int.mul_comm] at this
  omega
theorem lit_div {s f : Int} (gs : List (Int × Int)) (x : Int) (hs : 0 < s) (hf : 0 < f) : lit (s * f) (scal2 f gs) x = lit s gs (x / f) := by
  have a := lit_scal gs (x / f) (x % f) hs hf (Int.emod_nonneg x (by omega)) (Int.emod_lt_of_pos x hf)
  rw [← div_rest hf] at a
  exact a
theorem Canon.scal {c f : Int} {h : Int → Bool} {A : List (Int × Int)} (hc : 0 < c) (hf : 0 < f) (H : Canon c h A) : Canon (c * f) (fun t => h (t / f)) (scal2 f A) := by
  rcases H with ⟨a1, a2⟩ | ⟨⟨t, a1⟩, a2, a3⟩
  · exact .inl ⟨fun t => a1 _, by rw [a2]; simp [scal2]⟩
  · have mono : ∀ x y : Int, x < y → x * f < y * f := fun x y z => Int.mul_lt_mul_of_pos_right z hf
    refine .inr ⟨⟨t * f, by show h (t * f / f) = false; rw [Int.mul_ediv_cancel _ (by omega)]; exact a1⟩, ?_, fun g => ?_⟩
    · unfold scal2
      rw [List.pairwise_map]
      exact a2.imp fun z => mono _ _ z
    · unfold scal2
      rw [List.mem_map]
      have dv : ∀ o j : Int, (o * f + j) / f = o + j / f := fun o j => by rw [Int.add_comm, Int.add_mul_ediv_right _ _ (by omega), Int.add_comm]
      constructor
      · rintro ⟨⟨o, l⟩, ho, rfl⟩
        obtain ⟨h1, h2, h3, h4, h5, h6⟩ := (a3 (o, l)).mp ho
        simp only at h1 h2 h3 h4 h5 h6
        refine ⟨Int.mul_nonneg h1 (by omega), mono _ _ h2, ?_, ?_, fun j j0 j1 => ?_, ?_⟩
        · have := Int.mul_le_mul_of_nonneg_right h3 (show 0 ≤ f by omega)
          simp only; omega
        · show h ((o * f - 1) / f) = false
          rw [Int.sub_eq_add_neg, dv, show (-1 : Int) / f = -1 by
            rw [Int.neg_one_ediv, Int.sign_eq_one_of_pos hf]]
          exact h4
        · show h ((o * f + j) / f) = true
          rw [dv]
          refine h5 _ (Int.ediv_nonneg j0 (by omega)) ?_
          exact Int.ediv_lt_of_lt_mul hf j1
        · show h ((o * f + l * f) / f) = false
          rw [dv, Int.mul_ediv_cancel _ (by omega)]
          exact h6
      · rintro ⟨h1, h2, h3, h4, h5, h6⟩
        obtain ⟨O, L⟩ := g
        simp only at h1 h2 h3 h4 h5 h6
        -- both are multiples of f
        have k0 := h5 0 (by omega) (by omega)
        rw [Int.add_zero] at k0
        have eO := div_rest (x := O) hf
        have rO := Int.emod_nonneg O (show f ≠ 0 by omega)
        have rO1 := Int.emod_lt_of_pos O hf
        have mO : O % f = 0 := by
          refine Decidable.byContradiction fun z => ?_
          have e : (O - 1) / f = O / f := by
            have : O - 1 = O / f * f + (O % f - 1) := by omega
            have z0 : (O % f - 1) / f = 0 := Int.ediv_eq_zero_of_lt (by omega) (by omega)
            rw [this, dv, z0, Int.add_zero]
          rw [e, k0] at h4
          cases h4
        have eO' : O = O / f * f := by omega
        generalize hq : O / f = q at *
        subst eO'
        have eL := div_rest (x := L) hf
        have rL := Int.emod_nonneg L (show f ≠ 0 by omega)
        have rL1 := Int.emod_lt_of_pos L hf
        have mL : L % f = 0 := by
          refine Decidable.byContradiction fun z => ?_
          have e : (q * f + L) / f = (q * f + (L - 1)) / f := by
            rw [dv, dv]
            congr 1
            have : L - 1 = L / f * f + (L % f - 1) := by omega
            have z0 : (L % f - 1) / f = 0 := Int.ediv_eq_zero_of_lt (by omega) (by omega)
            rw [this, dv, z0, Int.add_zero]
          rw [e, h5 (L - 1) (by omega) (by omega)] at h6
          cases h6
        have eL' : L = L / f * f := by omega
        generalize hp : L / f = p at *
        subst eL'
        refine ⟨(q, p), (a3 (q, p)).mpr ?_, rfl⟩
        have p0 : 1 ≤ p := by
          refine Decidable.byContradiction fun z => ?_
          have := Int.mul_nonneg (show 0 ≤ -p by omega) (show 0 ≤ f by omega)
          rw [Int.neg_mul] at this
          omega
        have q0 : 0 ≤ q := by
          refine Decidable.byContradiction fun z => ?_
          have := Int.mul_le_mul_of_nonneg_right (show q ≤ -1 by omega) (show 0 ≤ f by omega)
          omega
        refine ⟨q0, Int.lt_of_mul_lt_mul_right h2 (by omega), p0, ?_, fun j j0 j1 => ?_, ?_⟩
        · have e : q * f - 1 = q * f + -1 := by omega
          rw [e, dv, show (-1 : Int) / f = -1 by
            rw [Int.neg_one_ediv, Int.sign_eq_one_of_pos hf]] at h4
          exact h4
        · have := h5 (j * f) (Int.mul_nonneg j0 (by omega)) (mono _ _ j1)
          rw [dv, Int.mul_ediv_cancel _ (by omega)] at this
          exact this
        · rw [dv, Int.mul_ediv_cancel _ (by omega)] at h6
          exact h6
end Gr

set_option Elab.async false
set_option linter.all false
set_option pp.deepTerms false
set_option pp.maxSteps 3000
set_option maxRecDepth 100000
set_option maxHeartbeats 4000000
namespace Gr
open PySem PySem.Spec PyProof.Rows L2
theorem cut_but (ks : List V) (x : V) : cutV (ks ++ [x]) none (some (-1)) = ks := by
  have e1 : HT.sIx (ks ++ [x]).length (ks ++ [x]).length (some (-1)) = ks.length := by
    show (if (-1 : Int) < 0 then ((-1 : Int) + ((ks ++ [x]).length : Int)).toNat else min (-1 : Int).toNat (ks ++ [x]).length) = ks.length
    rw [if_pos (by decide), List.length_append]
    simp
    omega
  unfold cutV
  rw [e1, HT.sIx_none]
  simp
theorem cut_from (ks : List V) (x : V) (m : Nat) (hm : m ≤ ks.length) : cutV (ks ++ [x]) (some (m : Int)) (some (-1)) = ks.drop m := by
  have e1 : HT.sIx (ks ++ [x]).length (ks ++ [x]).length (some (-1)) = ks.length := by
    show (if (-1 : Int) < 0 then ((-1 : Int) + ((ks ++ [x]).length : Int)).toNat else min (-1 : Int).toNat (ks ++ [x]).length) = ks.length
    rw [if_pos (by decide), List.length_append]
    simp
    omega
  have e2 := HT.sIx_nat (ks ++ [x]).length 0 m
  unfold cutV
  rw [e1, e2, List.length_append]
  have : min m (ks.length + [x].length) = m := by simp; omega
  rw [this, List.drop_append_of_le_length hm, List.take_append_of_le_length (by simp)]
  rw [List.take_of_length_le (by simp)]
theorem paired_drop {α β : Type} {R : α → β → Prop} : ∀ {xs : List α} {ys : List β} (n : Nat), Paired R xs ys → Paired R (xs.drop n) (ys.drop n)
  | _, _, 0, h => h
  | _, _, _ + 1, .nil => .nil
  | _, _, n + 1, .cons _ t => paired_drop n t
theorem paired_split {α β : Type} {R : α → β → Prop} : ∀ {zs : List α} {K : List β} {y : β}, Paired R zs (K ++ [y]) → ∃ ks x, zs = ks ++ [x] ∧ Paired R ks K ∧ R x y
  | _, [], _, .cons r .nil => ⟨[], _, rfl, .nil, r⟩
  | _, k :: K, _, .cons r t => by
    obtain ⟨ks, x, e, p, q⟩ := paired_split t
    exact ⟨_ :: ks, x, by rw [e]; rfl, .cons r p, q⟩
theorem none_of {H : Hp} {L D : Addr} {o : HO} (_ : H L = none) (h : (upd H L o) D = none) : H D = none := by
  by_cases e : D = L
  · subst e; rw [upd_same] at h; cases h
  · rwa [upd_ne e] at h
def spJoin : Sp := fun vs H Q _ => ∃ (g : Addr) (c : Int) (pre J : List (Int × Int)) (zs : List V), vs = [.int c, .ref g] ∧ H g = some (.lst zs) ∧ Paired (GrAt H) zs J ∧ Jn c pre J ∧ J ≠ [] ∧ J.length ≤ 6 ∧ 1 ≤ c ∧ c ≤ 10 ^ 30 ∧
  ∀ a ys A H', Same H H' → H' a = some (.lst ys) → Paired (GrAt H') ys A → Canon c (lit c pre) A → (∀ t, lit c A t = lit c pre t) → A ≠ [] → A.length ≤ 6 → Q (.ref a) H'
section
variable {P : Program} {w : World} {K : PySem.W.Frag} {mg : Str → Option Value} {base : Heap} {tC : Tok}
end
end Gr

set_option Elab.async false
set_option linter.all false
set_option pp.deepTerms false
set_option pp.maxSteps 3000
set_option maxRecDepth 100000
set_option maxHeartbeats 4000000
namespace Gr
open PySem PySem.Spec PyProof.Rows L2
def kOf (H : Hp) (x : V) : Int × Int := match x with
  | .ref t => match H t with
    | some (.tup [.int i, .int j]) => (i, j)
    | _ => (0, 0)
  | _ => (0, 0)
theorem kOf_at {H : Hp} {x : V} {g : Int × Int} (h : GrAt H x g) : kOf H x = g := by
  obtain ⟨b, rfl, e⟩ := h
  simp only [kOf, e]
theorem kOf_gr {H : Hp} : ∀ {xs : List V} {gs : List (Int × Int)}, Paired (GrAt H) xs gs → xs.map (kOf H) = gs ∧ ∀ x ∈ xs, GrAt H x (kOf H x)
  | _, _, .nil => ⟨rfl, fun _ h => (List.not_mem_nil h).elim⟩
  | _, _, .cons r t => by
    have ih := kOf_gr t
    refine ⟨by rw [List.map_cons, kOf_at r, ih.1], fun x hx => ?_⟩
    rcases List.mem_cons.mp hx with e | e
    · subst e; rw [kOf_at r]; exact r
    · exact ih.2 x e
theorem gr_of {H : Hp} : ∀ {xs : List V}, (∀ x ∈ xs, GrAt H x (kOf H x)) → Paired (GrAt H) xs (xs.map (kOf H))
  | [], _ => .nil
  | x :: xs, h => .cons (h x List.mem_cons_self) (gr_of fun y hy => h y (List.mem_cons_of_mem _ hy))
theorem lit_mem {c t : Int} {A B : List (Int × Int)} (h : ∀ g, g ∈ A ↔ g ∈ B) : lit c A t = lit c B t := by
  cases e : lit c B t with
  | true =>
    obtain ⟨g, hg, z⟩ := lit_iff.mp e
    exact lit_iff.mpr ⟨g, (h g).mpr hg, z⟩
  | false => exact lit_no.mpr fun g hg => lit_no.mp e g ((h g).mp hg)
theorem set_last {α : Type} (v x : α) : ∀ ks : List α, (ks ++ [x]).set ks.length v = ks ++ [v]
  | [] => rfl
  | k :: ks => by simp [set_last v x ks]
theorem ixN_last (ks : List V) (x : V) : ixN (ks ++ [x]).length (-1) = some ks.length := by
  unfold ixN
  rw [if_neg (by decide), if_pos (by rw [List.length_append]; simp; omega)]
  congr 1
  rw [List.length_append]; simp; omega
def ShortAt (Q : V → Hp → Prop) (c : Int) (gs : List (Int × Int)) (H : Hp) : Prop := ∀ a A H', Same H H' → SigT H' a A → Canon c (lit c gs) A → (∀ t, lit c A t = lit c gs t) → A ≠ [] → A.length ≤ 6 → Q (.ref a) H'
def spShort : Sp := fun vs H Q _ => ∃ (g : Addr) (c : Int) (gs : List (Int × Int)), vs = [.int c, .ref g] ∧ SigT H g gs ∧ OkG c gs ∧ c ≤ 10 ^ 30 ∧ ShortAt Q c gs H
section
variable {P : Program} {w : World} {K : PySem.W.Frag} {mg : Str → Option Value} {base : Heap} {tC : Tok}
theorem OkG.c1 {c : Int} {gs : List (Int × Int)} (hG : OkG c gs) : 1 ≤ c := by
  have g1 := hG.1
  match gs, g1, hG with
  | g :: _, _, hG => have := hG.2.2 g List.mem_cons_self; omega
end
end Gr

set_option Elab.async false
set_option linter.all false
set_option pp.deepTerms false
set_option pp.maxSteps 3000
set_option maxRecDepth 100000
set_option maxHeartbeats 4000000
namespace Gr
open PySem PySem.Spec PyProof.Rows L2
theorem per_add {s : Int} {f : Int → Bool} (per : ∀ t, f (t % s) = f t) (t : Int) : f (t + s) = f t := by
  rw [← per (t + s), Int.add_emod_right, per]
theorem Canon.rng {c : Int} {f : Int → Bool} {A : List (Int × Int)} (hc : 1 ≤ c) (per : ∀ t, f (t % c) = f t) (H : Canon c f A) : ∀ g ∈ A, 0 ≤ g.1 ∧ g.1 < c ∧ 1 ≤ g.2 ∧ g.2 ≤ c := by
  rcases H with ⟨_, rfl⟩ | ⟨_, _, a3⟩
  · intro g hg
    rw [List.mem_singleton.mp hg]
    simp only; omega
  · intro g hg
    obtain ⟨h1, h2, h3, h4, h5, h6⟩ := (a3 g).mp hg
    refine ⟨h1, h2, h3, Decidable.byContradiction fun z => ?_⟩
    have := h5 (g.2 - c) (by omega) (by omega)
    rw [← per_add per, show g.1 + (g.2 - c) + c = g.1 + g.2 by omega, h6] at this
    cases this
/-! ### the next and the last green moment -/
def NextAt (f : Int → Bool) (t n : Int) : Prop := t ≤ n ∧ f n = true ∧ ∀ k, t ≤ k → k < n → f k = false
def LastAt (f : Int → Bool) (t n : Int) : Prop := n ≤ t ∧ f n = true ∧ ∀ k, n < k → k ≤ t → f k = false
theorem NextAt.uniq {f : Int → Bool} {t n m : Int} (h : NextAt f t n) (k : NextAt f t m) : n = m := by
  rcases Int.lt_trichotomy n m with z | z | z
  · have := k.2.2 n h.1 z; rw [h.2.1] at this; cases this
  · exact z
  · have := h.2.2 m k.1 z; rw [k.2.1] at this; cases this
theorem LastAt.uniq {f : Int → Bool} {t n m : Int} (h : LastAt f t n) (k : LastAt f t m) : n = m := by
  rcases Int.lt_trichotomy n m with z | z | z
  · have := h.2.2 m z k.1; rw [k.2.1] at this; cases this
  · exact z
  · have := k.2.2 n z h.1; rw [h.2.1] at this; cases this
def on1 (c : Int) (g : Int × Int) (k : Int) : Bool := decide ((k - g.1) % c < g.2)
def nextG (c : Int) (g : Int × Int) (t : Int) : Int := if (t - g.1) % c < g.2 then t else t - (t - g.1) % c + c
def lastG (c : Int) (g : Int × Int) (t : Int) : Int := if (t - g.1) % c < g.2 then t else t - (t - g.1) % c + g.2 - 1
theorem emod_move {c x j : Int} (hc : 0 < c) (h0 : 0 ≤ x % c + j) (h1 : x % c + j < c) : (x + j) % c = x % c + j := by
  have e := Int.emod_add_mul_ediv x c
  have : x + j = x % c + j + c * (x / c) := by omega
  rw [this, Int.add_mul_emod_self_left, Int.emod_eq_of_lt h0 h1]
theorem nextG_ok {c t : Int} {g : Int × Int} (hc : 0 < c) (h1 : 1 ≤ g.2) : NextAt (on1 c g) t (nextG c g t) := by
  have r0 := Int.emod_nonneg (t - g.1) (show c ≠ 0 by omega)
  have r1 := Int.emod_lt_of_pos (t - g.1) hc
  unfold nextG
  split
  · rename_i z
    exact ⟨Int.le_refl _, decide_eq_true z, fun k k0 k1 => by omega⟩
  · rename_i z
    refine ⟨by omega, decide_eq_true ?_, fun k k0 k1 => decide_eq_false ?_⟩
    · have e := Int.emod_add_mul_ediv (t - g.1) c
      have : t - (t - g.1) % c + c - g.1 = 0 + c * ((t - g.1) / c + 1) := by rw [Int.mul_add, Int.mul_one]; omega
      rw [this, Int.add_mul_emod_self_left, Int.zero_emod]
      omega
    · have := emod_move (c := c) (x := t - g.1) (j := k - t) hc (by omega) (by omega)
      rw [show t - g.1 + (k - t) = k - g.1 by omega] at this
      rw [this]
      omega
theorem lastG_ok {c t : Int} {g : Int × Int} (hc : 0 < c) (h1 : 1 ≤ g.2) (h2 : g.2 ≤ c) : LastAt (on1 c g) t (lastG c g t) := by
  have r0 := Int.emod_nonneg (t - g.1) (show c ≠ 0 by omega)
  have r1 := Int.emod_lt_of_pos (t - g.1) hc
  unfold lastG
  split
  · rename_i z
    exact ⟨Int.le_refl _, decide_eq_true z, fun k k0 k1 => by omega⟩
  · rename_i z
    have mv : ∀ k, 0 ≤ (t - g.1) % c + (k - t) → (t - g.1) % c + (k - t) < c → (k - g.1) % c = (t - g.1) % c + (k - t) := fun k a b => by
      have := emod_move (c := c) (x := t - g.1) (j := k - t) hc a b
      rwa [show t - g.1 + (k - t) = k - g.1 by omega] at this
    refine ⟨by omega, decide_eq_true ?_, fun k k0 k1 => decide_eq_false ?_⟩
    · rw [mv _ (by omega) (by omega)]; omega
    · rw [mv _ (by omega) (by omega)]; omega
theorem next_min {c t m : Int} {gs : List (Int × Int)} (hG : ∀ g ∈ gs, 1 ≤ g.2) (hc : 0 < c) (hm : m ∈ gs.map fun g => nextG c g t) (le : ∀ y ∈ gs.map (fun g => nextG c g t), m ≤ y) : NextAt (lit c gs) t m := by
  obtain ⟨g, hg, rfl⟩ := List.mem_map.mp hm
  have ok := nextG_ok (t := t) hc (hG g hg)
  refine ⟨ok.1, lit_iff.mpr ⟨g, hg, of_decide_eq_true ok.2.1⟩, fun k k0 k1 => lit_no.mpr fun h hh z => ?_⟩
  have a := nextG_ok (t := t) hc (hG h hh)
  have b := le _ (List.mem_map.mpr ⟨h, hh, rfl⟩)
  have := a.2.2 k k0 (by omega)
  exact absurd z (of_decide_eq_false this)
theorem last_max {c t m : Int} {gs : List (Int × Int)} (hG : ∀ g ∈ gs, 1 ≤ g.2 ∧ g.2 ≤ c) (hc : 0 < c) (hm : m ∈ gs.map fun g => lastG c g t) (le : ∀ y ∈ gs.map (fun g => lastG c g t), y ≤ m) : LastAt (lit c gs) t m := by
  obtain ⟨g, hg, rfl⟩ := List.mem_map.mp hm
  have ok := lastG_ok (t := t) hc (hG g hg).1 (hG g hg).2
  refine ⟨ok.1, lit_iff.mpr ⟨g, hg, of_decide_eq_true ok.2.1⟩, fun k k0 k1 => lit_no.mpr fun h hh z => ?_⟩
  have a := lastG_ok (t := t) hc (hG h hh).1 (hG h hh).2
  have b := le _ (List.mem_map.mpr ⟨h, hh, rfl⟩)
  have := a.2.2 k (by omega) k1
  exact absurd z (of_decide_eq_false this)
/-! ### counting -/
def cnt (f : Int → Bool) (lo : Int) : Nat → Int
  | 0 => 0
  | n + 1 => cnt f lo n + if f (lo + n) then 1 else 0
def beforeG (c : Int) (g : Int × Int) (m : Int) : Int := (m - g.1) / c * g.2 + (if g.2 < (m - g.1) % c then g.2 else (m - g.1) % c)
theorem before_step {c m : Int} {g : Int × Int} (hc : 0 < c) (h1 : 1 ≤ g.2) (h2 : g.2 ≤ c) : beforeG c g (m + 1) = beforeG c g m + if (m - g.1) % c < g.2 then 1 else 0 := by
  have e := Int.emod_add_mul_ediv (m - g.1) c
  have r0 := Int.emod_nonneg (m - g.1) (show c ≠ 0 by omega)
  have r1 := Int.emod_lt_of_pos (m - g.1) hc
  unfold beforeG
  by_cases z : (m - g.1) % c + 1 < c
  · have em := emod_move (c := c) (x := m - g.1) (j := 1) hc (by omega) z
    have ed : (m - g.1 + 1) / c = (m - g.1) / c := by
      have : m - g.1 + 1 = ((m - g.1) % c + 1) + c * ((m - g.1) / c) := by omega
      rw [this, Int.add_mul_ediv_left _ _ (by omega), Int.ediv_eq_zero_of_lt (by omega) z, Int.zero_add]
    rw [show m + 1 - g.1 = m - g.1 + 1 by omega, em, ed]
    split <;> split <;> split <;> omega
  · have x : m - g.1 + 1 = 0 + c * ((m - g.1) / c + 1) := by rw [Int.mul_add, Int.mul_one]; omega
    rw [show m + 1 - g.1 = m - g.1 + 1 by omega, x, Int.add_mul_emod_self_left, Int.add_mul_ediv_left _ _ (by omega), Int.zero_emod, Int.zero_ediv, Int.zero_add, Int.add_mul, Int.one_mul]
    split <;> split <;> split <;> omega
theorem arcs_one {c m : Int} {f : Int → Bool} {A : List (Int × Int)} (hc : 0 < c) (per : ∀ t, f (t % c) = f t) (H : Canon c f A) : A.Pairwise fun g h => ¬ ((m - g.1) % c < g.2 ∧ (m - h.1) % c < h.2) := by
  rcases H with ⟨_, rfl⟩ | ⟨_, a2, a3⟩
  · exact List.pairwise_singleton _ _
  · have key : ∀ g h : Int × Int, IsArc c f g → IsArc c f h → (m - g.1) % c < g.2 → (m - h.1) % c < h.2 → ¬ (m - g.1) % c < (m - h.1) % c := fun g h ag ah zg zh lt => by
      have g4 := ag.2.2.2.1
      have r0 := Int.emod_nonneg (m - g.1) (show c ≠ 0 by omega)
      have y := ah.2.2.2.2.1 ((m - h.1) % c - (m - g.1) % c - 1) (by omega) (by omega)
      have eg := Int.emod_add_mul_ediv (m - g.1) c
      have eh := Int.emod_add_mul_ediv (m - h.1) c
      rw [← per] at y g4
      have : (h.1 + ((m - h.1) % c - (m - g.1) % c - 1)) % c = (g.1 - 1) % c := by
        have : h.1 + ((m - h.1) % c - (m - g.1) % c - 1) = g.1 - 1 + c * ((m - g.1) / c - (m - h.1) / c) := by rw [Int.mul_sub]; omega
        rw [this, Int.add_mul_emod_self_left]
      rw [this, g4] at y
      cases y
    refine List.Pairwise.imp_of_mem (fun {g h} hg hh lt => ?_) a2
    rintro ⟨zg, zh⟩
    have ag := (a3 g).mp hg
    have ah := (a3 h).mp hh
    have n1 := key g h ag ah zg zh
    have n2 := key h g ah ag zh zg
    have e : (m - g.1) % c = (m - h.1) % c := by omega
    have eg := Int.emod_add_mul_ediv (m - g.1) c
    have eh := Int.emod_add_mul_ediv (m - h.1) c
    have g1 := ag.1
    have g2 := ag.2.1
    have h1 := ah.1
    have h2 := ah.2.1
    -- begins differ by less than a cycle
    have d : h.1 - g.1 = c * ((m - g.1) / c - (m - h.1) / c) := by rw [Int.mul_sub]; omega
    have dm : (h.1 - g.1) % c = 0 := by rw [d, Int.mul_emod_right]
    rw [Int.emod_eq_of_lt (by omega) (by omega)] at dm
    omega
theorem sum_none {c m : Int} : ∀ {A : List (Int × Int)}, (∀ g ∈ A, ¬ (m - g.1) % c < g.2) → (A.map fun g => if (m - g.1) % c < g.2 then (1 : Int) else 0).sum = 0
  | [], _ => rfl
  | g :: A, h => by
    rw [List.map_cons, List.sum_cons, sum_none fun x hx => h x (List.mem_cons_of_mem _ hx), if_neg (h g List.mem_cons_self)]
    rfl
theorem sum_one {c m : Int} : ∀ {A : List (Int × Int)}, (A.Pairwise fun g h => ¬ ((m - g.1) % c < g.2 ∧ (m - h.1) % c < h.2)) → (A.map fun g => if (m - g.1) % c < g.2 then (1 : Int) else 0).sum = if lit c A m then 1 else 0
  | [], _ => rfl
  | g :: A, h => by
    have h' := List.pairwise_cons.mp h
    rw [List.map_cons, List.sum_cons]
    by_cases z : (m - g.1) % c < g.2
    · rw [if_pos z, sum_none fun x hx y => h'.1 x hx ⟨z, y⟩, if_pos (lit_iff.mpr ⟨g, List.mem_cons_self, z⟩)]
      rfl
    · rw [if_neg z, sum_one h'.2, Int.zero_add]
      have : lit c (g :: A) m = lit c A m := by
        unfold lit
        rw [List.any_cons, decide_eq_false z, Bool.false_or]
      rw [this]
theorem sum_sub {α : Type} {u v : α → Int} : ∀ A : List α, (A.map fun g => u g - v g).sum = (A.map u).sum - (A.map v).sum
  | [] => rfl
  | g :: A => by
    rw [List.map_cons, List.sum_cons, List.map_cons, List.sum_cons, List.map_cons, List.sum_cons, sum_sub A]
    omega
theorem sum_add {α : Type} {u v : α → Int} : ∀ A : List α, (A.map fun g => u g + v g).sum = (A.map u).sum + (A.map v).sum
  | [] => rfl
  | g :: A => by
    rw [List.map_cons, List.sum_cons, List.map_cons, List.sum_cons, List.map_cons, List.sum_cons, sum_add A]
    omega
theorem count_ok {c lo : Int} {f : Int → Bool} {A : List (Int × Int)} (hc : 0 < c) (per : ∀ t, f (t % c) = f t) (H : Canon c f A) (same : ∀ t, lit c A t = f t) : ∀ n : Nat, (A.map fun g => beforeG c g (lo + n) - beforeG c g lo).sum = cnt f lo n
  | 0 => by
    have : (fun g => beforeG c g (lo + ((0 : Nat) : Int)) - beforeG c g lo) = fun _ : Int × Int => (0 : Int) := by
      funext g
      rw [show lo + ((0 : Nat) : Int) = lo by omega]
      omega
    rw [this]
    have z : ∀ B : List (Int × Int), (B.map fun _ => (0 : Int)).sum = 0 := fun B => by
      induction B with
      | nil => rfl
      | cons g B ih => rw [List.map_cons, List.sum_cons, ih]; rfl
    exact z A
  | n + 1 => by
    have r := H.rng (by omega) per
    have ih := count_ok (lo := lo) hc per H same n
    have e : A.map (fun g => beforeG c g (lo + ((n + 1 : Nat) : Int)) - beforeG c g lo) = A.map fun g => (beforeG c g (lo + n) - beforeG c g lo) + (if (lo + n - g.1) % c < g.2 then 1 else 0) := by
      apply List.map_congr_left
      intro g hg
      have := before_step (m := lo + n) hc (r g hg).2.2.1 (r g hg).2.2.2
      rw [show lo + ((n + 1 : Nat) : Int) = lo + n + 1 by push_cast; omega, this]
      omega
    rw [e, sum_add, ih, sum_one (arcs_one hc per H), same]
    rfl
end Gr

set_option linter.all false
/-! passages: runs, the graph of their last starts, the function -/
namespace Pm
abbrev Rn := Int × Int × Int
def la (r : Rn) : Int := r.2.2 + r.2.1 - r.1
def mv (t : Int) (r : Rn) : Rn := (r.1 + t, r.2.1 + t, r.2.2 + t)
@[simp] theorem mv1 (t : Int) (r : Rn) : (mv t r).1 = r.1 + t := rfl
@[simp] theorem mv2 (t : Int) (r : Rn) : (mv t r).2.1 = r.2.1 + t := rfl
@[simp] theorem mv3 (t : Int) (r : Rn) : (mv t r).2.2 = r.2.2 + t := rfl
@[simp] theorem la_mv (t : Int) (r : Rn) : la (mv t r) = la r + t := by unfold la; simp; omega
def GoesOn (b r : Rn) : Prop := b.2.1 < r.1 ∧ la b < r.2.2
def Joins (b r : Rn) : Prop := b.2.1 + 1 = r.1 ∧ la b + 1 = r.2.2
instance (b r : Rn) : Decidable (GoesOn b r) := by unfold GoesOn; infer_instance
instance (b r : Rn) : Decidable (Joins b r) := by unfold Joins; infer_instance
def stepF (r : Rn) (x : Int) : Int := r.2.2 + (if x - r.1 > 0 then x - r.1 else 0)
structure Ok (c : Int) (rs : List Rn) : Prop where
  c1 : 1 ≤ c
  ne : rs ≠ []
  fl : ∀ r ∈ rs, r.1 ≤ r.2.1
  pw : rs.Pairwise GoesOn
  cy : ∀ a ∈ rs, ∀ b ∈ rs, GoesOn (mv (-c) a) b
/-- z is a last start, y its arrival -/
def G (c : Int) (rs : List Rn) (z y : Int) : Prop := ∃ r ∈ rs, ∃ k : Int, r.1 + k * c ≤ z ∧ z ≤ r.2.1 + k * c ∧ y = r.2.2 + z - r.1
def IsF (g : Int → Int → Prop) (x y : Int) : Prop := ∃ z, x ≤ z ∧ g z y ∧ ∀ z' y', x ≤ z' → z' < z → ¬ g z' y'
noncomputable def FG (g : Int → Int → Prop) (x : Int) : Int := Classical.epsilon (IsF g x)
noncomputable abbrev F (c : Int) (rs : List Rn) (x : Int) : Int := FG (G c rs) x
def Fun2 (g : Int → Int → Prop) : Prop := ∀ z y y', g z y → g z y' → y = y'
theorem IsF.uniq {g : Int → Int → Prop} (h : Fun2 g) {x y y' : Int} (a : IsF g x y) (b : IsF g x y') : y = y' := by
  obtain ⟨z, z0, gz, mz⟩ := a
  obtain ⟨w, w0, gw, mw⟩ := b
  rcases Int.lt_trichotomy z w with l | l | l
  · exact absurd gz (mw z y z0 l)
  · subst l; exact h _ _ _ gz gw
  · exact absurd gw (mz w y' w0 l)
theorem FG_eq {g : Int → Int → Prop} (h : Fun2 g) {x y : Int} (a : IsF g x y) : FG g x = y :=
  IsF.uniq h (Classical.epsilon_spec ⟨y, a⟩) a
theorem FG_is {g : Int → Int → Prop} {x y : Int} (a : IsF g x y) : IsF g x (FG g x) := Classical.epsilon_spec ⟨y, a⟩

theorem GoesOn.trans {a b d : Rn} (h : GoesOn a b) (hb : b.1 ≤ b.2.1) (k : GoesOn b d) : GoesOn a d := by
  unfold GoesOn la at *; omega
/-- how two runs, moved by cycles, stand to each other -/
theorem Ok.later {c : Int} {rs : List Rn} (h : Ok c rs) {a b : Rn} (ha : a ∈ rs) (hb : b ∈ rs) {i j : Int} (lt : i < j) : GoesOn (mv (i * c) a) (mv (j * c) b) := by
  have k := h.cy a ha b hb
  have c1 := h.c1
  have : c * 1 ≤ c * (j - i) := Int.mul_le_mul_of_nonneg_left (by omega) (by omega)
  rw [Int.mul_sub, Int.mul_comm c j, Int.mul_comm c i] at this
  unfold GoesOn at *
  simp only [mv1, mv2, mv3, la_mv] at *
  omega
theorem Ok.tri {c : Int} {rs : List Rn} (h : Ok c rs) {a b : Rn} (ha : a ∈ rs) (hb : b ∈ rs) : a = b ∨ GoesOn a b ∨ GoesOn b a := by
  have pw := h.pw
  clear h
  induction rs with
  | nil => cases ha
  | cons r rs ih =>
    have p := List.pairwise_cons.mp pw
    rcases List.mem_cons.mp ha with rfl | ha' <;> rcases List.mem_cons.mp hb with rfl | hb'
    · exact .inl rfl
    · exact .inr (.inl (p.1 _ hb'))
    · exact .inr (.inr (p.1 _ ha'))
    · exact ih ha' hb' p.2
/-- any two moved runs: the same one, or one behind the other -/
theorem Ok.tri2 {c : Int} {rs : List Rn} (h : Ok c rs) {a b : Rn} (ha : a ∈ rs) (hb : b ∈ rs) (i j : Int) : (a = b ∧ i = j) ∨ GoesOn (mv (i * c) a) (mv (j * c) b) ∨ GoesOn (mv (j * c) b) (mv (i * c) a) := by
  rcases Int.lt_trichotomy i j with l | l | l
  · exact .inr (.inl (h.later ha hb l))
  · subst l
    rcases h.tri ha hb with e | e | e
    · exact .inl ⟨e, rfl⟩
    · refine .inr (.inl ?_); unfold GoesOn at *; simp only [mv1, mv2, mv3, la_mv]; omega
    · refine .inr (.inr ?_); unfold GoesOn at *; simp only [mv1, mv2, mv3, la_mv]; omega
  · exact .inr (.inr (h.later hb ha l))
theorem Ok.fun2 {c : Int} {rs : List Rn} (h : Ok c rs) : Fun2 (G c rs) := by
  rintro z y y' ⟨a, ha, i, a1, a2, rfl⟩ ⟨b, hb, j, b1, b2, rfl⟩
  rcases h.tri2 ha hb i j with ⟨rfl, _⟩ | g | g
  · rfl
  · unfold GoesOn at g; simp only [mv1, mv2, mv3, la_mv] at g; omega
  · unfold GoesOn at g; simp only [mv1, mv2, mv3, la_mv] at g; omega
theorem Ok.ll {c : Int} {rs : List Rn} (h : Ok c rs) {a b : Rn} (ha : a ∈ rs) (hb : b ∈ rs) : a.2.1 - c < b.1 := by
  have := (h.cy a ha b hb).1; simp only [mv2] at this; omega
/-- a start arrives with the first run whose last start isn't ahead of it -/
theorem Ok.isF {c : Int} {pre post : List Rn} {r : Rn} (h : Ok c (pre ++ r :: post)) {x k : Int} (hp : ∀ a ∈ pre, a.2.1 + k * c < x) (hr : x ≤ r.2.1 + k * c) (hw : ∀ a ∈ pre ++ r :: post, a.2.1 + k * c - c < x) :
    IsF (G c (pre ++ r :: post)) x (stepF (mv (k * c) r) x) := by
  have hm : r ∈ pre ++ r :: post := by simp
  have fl := h.fl r hm
  have c1 := h.c1
  refine ⟨if x - (r.1 + k * c) > 0 then x else r.1 + k * c, by split <;> omega, ⟨r, hm, k, by split <;> omega, by split <;> omega, ?_⟩, ?_⟩
  · unfold stepF; simp only [mv1, mv3]; split <;> omega
  · rintro z' y' z0 z1 ⟨b, hb, j, b1, b2, -⟩
    have z2 : z' < r.1 + k * c := by revert z1; split <;> intro z1 <;> omega
    rcases h.tri2 hb hm j k with ⟨rfl, rfl⟩ | g | g
    · omega
    · -- b is ahead of r
      rcases Int.lt_trichotomy j k with l | l | l
      · have := hw b hb
        have e : (k - j) * c = k * c - j * c := Int.sub_mul ..
        have : 1 * c ≤ (k - j) * c := Int.mul_le_mul_of_nonneg_right (by omega) (by omega)
        omega
      · subst l
        rcases List.mem_append.mp hb with hb | hb
        · have := hp b hb; omega
        · rcases List.mem_cons.mp hb with rfl | hb
          · omega
          · have := (List.pairwise_cons.mp ((List.pairwise_append.mp h.pw).2.1)).1 b hb
            unfold GoesOn at this g; simp only [mv1, mv2, mv3, la_mv] at g
            have := h.fl b (by simp [hb])
            omega
      · have := h.later hm hb l
        unfold GoesOn at this; simp only [mv1, mv2, mv3, la_mv] at this
        omega
    · unfold GoesOn at g; simp only [mv1, mv2, mv3, la_mv] at g; omega
theorem Ok.F_at {c : Int} {pre post : List Rn} {r : Rn} (h : Ok c (pre ++ r :: post)) {x k : Int} (hp : ∀ a ∈ pre, a.2.1 + k * c < x) (hr : x ≤ r.2.1 + k * c) (hw : ∀ a ∈ pre ++ r :: post, a.2.1 + k * c - c < x) :
    F c (pre ++ r :: post) x = stepF (mv (k * c) r) x := FG_eq h.fun2 (h.isF hp hr hw)
/-- the first item that is so -/
theorem first_of {α : Type} {p : α → Prop} [DecidablePred p] : ∀ {l : List α}, (∃ x ∈ l, p x) → ∃ pre x post, l = pre ++ x :: post ∧ p x ∧ ∀ y ∈ pre, ¬ p y
  | [], h => by obtain ⟨x, hx, _⟩ := h; cases hx
  | a :: l, h => by
    by_cases z : p a
    · exact ⟨[], a, l, rfl, z, fun y hy => by cases hy⟩
    · obtain ⟨x, hx, px⟩ := h
      rcases List.mem_cons.mp hx with rfl | hx
      · exact absurd px z
      · obtain ⟨pre, y, post, rfl, py, no⟩ := first_of ⟨x, hx, px⟩
        exact ⟨a :: pre, y, post, rfl, py, fun w hw => by rcases List.mem_cons.mp hw with rfl | hw; exact z; exact no w hw⟩
/-- the last run has the greatest last start -/
theorem Ok.lastMax {c : Int} {pre : List Rn} {l : Rn} (h : Ok c (pre ++ [l])) : ∀ a ∈ pre ++ [l], a.2.1 ≤ l.2.1 := fun a ha => by
  rcases List.mem_append.mp ha with ha | ha
  · have := (List.pairwise_append.mp h.pw).2.2 a ha l (by simp)
    have := h.fl l (by simp)
    unfold GoesOn at *; omega
  · rw [List.mem_singleton.mp ha]; exact Int.le_refl _
/-- by how many cycles a start is to be moved -/
theorem turn_rng (c l x : Int) (hc : 1 ≤ c) : l + -((l - x) / c) * c - c < x ∧ x ≤ l + -((l - x) / c) * c := by
  have e := Int.emod_add_mul_ediv (l - x) c
  have r0 := Int.emod_nonneg (l - x) (show c ≠ 0 by omega)
  have r1 := Int.emod_lt_of_pos (l - x) (show 0 < c by omega)
  have : -((l - x) / c) * c = -(c * ((l - x) / c)) := by rw [Int.neg_mul, Int.mul_comm]
  omega
theorem Ok.ex {c : Int} {rs : List Rn} (h : Ok c rs) (x : Int) : ∃ y, IsF (G c rs) x y := by
  rcases List.eq_nil_or_concat rs with e | ⟨pre, l, e⟩
  · exact absurd e h.ne
  rw [List.concat_eq_append] at e
  subst e
  have t := turn_rng c l.2.1 x h.c1
  obtain ⟨pr, r, post, e, pr1, no⟩ := first_of (p := fun r : Rn => x ≤ r.2.1 + -((l.2.1 - x) / c) * c) (l := pre ++ [l]) ⟨l, by simp, t.2⟩
  have mx := h.lastMax
  rw [e] at h mx ⊢
  exact ⟨_, h.isF (k := -((l.2.1 - x) / c)) (fun a ha => by have := no a ha; omega) pr1 fun a ha => by have := mx a ha; omega⟩
theorem Ok.F_is {c : Int} {rs : List Rn} (h : Ok c rs) (x : Int) : IsF (G c rs) x (F c rs x) := by
  obtain ⟨y, hy⟩ := h.ex x
  exact FG_is hy
theorem G_move {c : Int} {rs : List Rn} {z y : Int} (j : Int) (h : G c rs z y) : G c rs (z + j * c) (y + j * c) := by
  obtain ⟨r, hr, k, h1, h2, rfl⟩ := h
  refine ⟨r, hr, k + j, ?_, ?_, ?_⟩ <;> (try rw [Int.add_mul]) <;> omega
theorem Ok.F_move {c : Int} {rs : List Rn} (h : Ok c rs) (x j : Int) : F c rs (x + j * c) = F c rs x + j * c := by
  obtain ⟨z, z0, gz, mz⟩ := h.F_is x
  refine FG_eq h.fun2 ⟨z + j * c, by omega, G_move j gz, fun z' y' a b g => ?_⟩
  have := G_move (-j) g
  rw [Int.neg_mul] at this
  exact mz _ _ (by omega) (by omega) this
theorem F_congr {c : Int} {A B : List Rn} (h : ∀ z y, G c A z y ↔ G c B z y) : F c A = F c B := by
  have : G c A = G c B := by funext z y; exact propext (h z y)
  unfold F; rw [this]
/-- moving single runs by cycles changes nothing -/
theorem G_same {c : Int} {A B : List Rn} (h1 : ∀ a ∈ A, ∃ j : Int, mv (j * c) a ∈ B) (h2 : ∀ b ∈ B, ∃ j : Int, mv (j * c) b ∈ A) : ∀ z y, G c A z y ↔ G c B z y := by
  have key : ∀ {A B : List Rn}, (∀ a ∈ A, ∃ j : Int, mv (j * c) a ∈ B) → ∀ z y, G c A z y → G c B z y := by
    rintro A B h z y ⟨r, hr, k, a1, a2, rfl⟩
    obtain ⟨j, hj⟩ := h r hr
    refine ⟨_, hj, k - j, ?_, ?_, ?_⟩ <;> simp only [mv1, mv2, mv3] <;> (try rw [Int.sub_mul]) <;> omega
  exact fun z y => ⟨key h1 z y, key h2 z y⟩
/-- two runs that follow one another are one -/
theorem G_join {c : Int} {pre post : List Rn} {a b : Rn} (ha : a.1 ≤ a.2.1) (hb : b.1 ≤ b.2.1) (h : Joins a b) : ∀ z y, G c (pre ++ a :: b :: post) z y ↔ G c (pre ++ (a.1, b.2.1, a.2.2) :: post) z y := by
  unfold Joins la at h
  rintro z y
  constructor
  · rintro ⟨r, hr, k, a1, a2, rfl⟩
    rcases List.mem_append.mp hr with hr | hr
    · exact ⟨r, List.mem_append_left _ hr, k, a1, a2, rfl⟩
    · rcases List.mem_cons.mp hr with rfl | hr
      · exact ⟨_, List.mem_append_right _ List.mem_cons_self, k, a1, by show z ≤ b.2.1 + k * c; omega, rfl⟩
      · rcases List.mem_cons.mp hr with rfl | hr
        · exact ⟨_, List.mem_append_right _ List.mem_cons_self, k, by show a.1 + k * c ≤ z; omega, a2, by show _ = a.2.2 + z - a.1; omega⟩
        · exact ⟨r, List.mem_append_right _ (List.mem_cons_of_mem _ hr), k, a1, a2, rfl⟩
  · rintro ⟨r, hr, k, a1, a2, rfl⟩
    rcases List.mem_append.mp hr with hr | hr
    · exact ⟨r, List.mem_append_left _ hr, k, a1, a2, rfl⟩
    · rcases List.mem_cons.mp hr with rfl | hr
      · simp only at a1 a2 ⊢
        by_cases z1 : z ≤ a.2.1 + k * c
        · exact ⟨a, by simp, k, a1, z1, rfl⟩
        · exact ⟨b, by simp, k, by omega, a2, by omega⟩
      · exact ⟨r, by simp [hr], k, a1, a2, rfl⟩
theorem Ok.join {c : Int} {pre post : List Rn} {a b : Rn} (ok : Ok c (pre ++ a :: b :: post)) (h : Joins a b) : Ok c (pre ++ (a.1, b.2.1, a.2.2) :: post) := by
  have fa := ok.fl a (by simp)
  have fb := ok.fl b (by simp)
  have e : la (a.1, b.2.1, a.2.2) = la b := by unfold Joins la at *; simp only; omega
  have mem : ∀ {r}, r ∈ pre ++ (a.1, b.2.1, a.2.2) :: post → r = (a.1, b.2.1, a.2.2) ∨ r ∈ pre ++ a :: b :: post := fun {r} hr => by
    rcases List.mem_append.mp hr with hr | hr
    · exact .inr (List.mem_append_left _ hr)
    · rcases List.mem_cons.mp hr with rfl | hr
      · exact .inl rfl
      · exact .inr (by simp [hr])
  have pw := ok.pw
  rw [List.pairwise_append] at pw
  obtain ⟨p1, p2, p3⟩ := pw
  obtain ⟨p4, p5⟩ := List.pairwise_cons.mp p2
  obtain ⟨p6, p7⟩ := List.pairwise_cons.mp p5
  refine ⟨ok.c1, by simp, fun r hr => ?_, ?_, fun r hr s hs => ?_⟩
  · rcases mem hr with rfl | hr
    · unfold Joins at h; simp only; omega
    · exact ok.fl r hr
  · rw [List.pairwise_append]
    refine ⟨p1, List.pairwise_cons.mpr ⟨fun s hs => ?_, p7⟩, fun r hr s hs => ?_⟩
    · have := p6 s hs; unfold GoesOn at *; rw [e]; exact this
    · rcases List.mem_cons.mp hs with rfl | hs
      · exact p3 r hr a (by simp)
      · exact p3 r hr s (by simp [hs])
  · have aa : a ∈ pre ++ a :: b :: post := by simp
    have bb : b ∈ pre ++ a :: b :: post := by simp
    have key : ∀ r s, (r = (a.1, b.2.1, a.2.2) ∨ r ∈ pre ++ a :: b :: post) → s ∈ pre ++ a :: b :: post → GoesOn (mv (-c) r) s := fun r s hr hs => by
      rcases hr with rfl | hr
      · have := ok.cy b bb s hs; unfold GoesOn at *; simp only [mv2, la_mv] at *; rw [e]; exact this
      · exact ok.cy r hr s hs
    rcases mem hs with rfl | hs'
    · exact key r a (mem hr) aa
    · exact key r s (mem hr) hs'
end Pm

set_option linter.all false
namespace Pm
def NoJoin (c : Int) (rs : List Rn) : Prop := ∀ r ∈ rs, ¬ G c rs (r.1 - 1) (r.2.2 - 1) ∧ ¬ G c rs (r.2.1 + 1) (la r + 1)
/-- the one form -/
def Can (c : Int) (rs : List Rn) : Prop := Ok c rs ∧ ((∃ y, rs = [(0, c - 1, y)]) ∨ ((∀ r ∈ rs, 0 ≤ r.1 ∧ r.1 < c) ∧ NoJoin c rs))
theorem full_G {c y z w : Int} (hc : 1 ≤ c) : G c [(0, c - 1, y)] z w ↔ w = y + z := by
  constructor
  · rintro ⟨r, hr, k, _, _, rfl⟩
    rw [List.mem_singleton.mp hr]; simp only; omega
  · rintro rfl
    have e := Int.emod_add_mul_ediv z c
    have r0 := Int.emod_nonneg z (show c ≠ 0 by omega)
    have r1 := Int.emod_lt_of_pos z (show 0 < c by omega)
    have e2 := Int.mul_comm c (z / c)
    refine ⟨_, List.mem_singleton.mpr rfl, z / c, ?_, ?_, ?_⟩ <;> simp only <;> omega
theorem Ok.rng_last {c : Int} {rs : List Rn} (h : Ok c rs) {r : Rn} (hr : r ∈ rs) : r.2.1 < r.1 + c := by have := h.ll hr hr; omega
/-- whoever goes on in the graph is in the run -/
theorem can_mem {c : Int} {A B : List Rn} (hA : Ok c A) (nA : NoJoin c A) (gA : ∀ r ∈ A, 0 ≤ r.1 ∧ r.1 < c) (hB : Ok c B) (nB : NoJoin c B) (gB : ∀ r ∈ B, 0 ≤ r.1 ∧ r.1 < c) (h : ∀ z y, G c A z y ↔ G c B z y) {r : Rn} (hr : r ∈ A) : r ∈ B := by
  have fl := hA.fl r hr
  have c1 := hA.c1
  obtain ⟨s, hs, k, s1, s2, s3⟩ := (h r.1 r.2.2).mp ⟨r, hr, 0, by omega, by omega, by omega⟩
  have fs := hB.fl s hs
  have e1 : s.1 + k * c = r.1 := by
    refine Int.le_antisymm s1 (Decidable.byContradiction fun z => (nA r hr).1 ((h _ _).mpr ⟨s, hs, k, by omega, by omega, by omega⟩))
  have k0 : k = 0 := by
    have a := gA r hr
    have b := gB s hs
    rcases Int.lt_trichotomy k 0 with l | l | l
    · have : k * c ≤ -1 * c := Int.mul_le_mul_of_nonneg_right (by omega) (by omega)
      omega
    · exact l
    · have : 1 * c ≤ k * c := Int.mul_le_mul_of_nonneg_right (by omega) (by omega)
      omega
  subst k0
  have e2 : s.2.2 = r.2.2 := by omega
  have e3 : s.2.1 = r.2.1 := by
    refine Int.le_antisymm (Decidable.byContradiction fun z => ?_) (Decidable.byContradiction fun z => ?_)
    · exact (nA r hr).2 ((h _ _).mpr ⟨s, hs, 0, by omega, by omega, by unfold la; omega⟩)
    · exact (nB s hs).2 ((h _ _).mp ⟨r, hr, 0, by omega, by omega, by unfold la; omega⟩)
  have : r = s := by
    rcases r with ⟨a, b, d⟩
    rcases s with ⟨a', b', d'⟩
    simp only at e1 e2 e3
    subst e2; subst e3
    have : a = a' := by omega
    rw [this]
  rw [this]; exact hs
theorem sorted_uniq {α : Type} (k : α → Int) : ∀ {A B : List α}, A.Pairwise (fun x y => k x < k y) → B.Pairwise (fun x y => k x < k y) → (∀ x, x ∈ A ↔ x ∈ B) → A = B
  | [], [], _, _, _ => rfl
  | [], b :: B, _, _, h => by have := (h b).mpr (by simp); cases this
  | a :: A, [], _, _, h => by have := (h a).mp (by simp); cases this
  | a :: A, b :: B, pa, pb, h => by
    have qa := List.pairwise_cons.mp pa
    have qb := List.pairwise_cons.mp pb
    have e : a = b := by
      rcases List.mem_cons.mp ((h a).mp (by simp)) with e | m
      · exact e
      · rcases List.mem_cons.mp ((h b).mpr (by simp)) with e | m'
        · exact e.symm
        · have := qb.1 a m; have := qa.1 b m'; omega
    subst e
    rw [sorted_uniq k qa.2 qb.2 fun x => ⟨fun m => ?_, fun m => ?_⟩]
    · rcases List.mem_cons.mp ((h x).mp (List.mem_cons_of_mem _ m)) with rfl | m'
      · have := qa.1 x m; omega
      · exact m'
    · rcases List.mem_cons.mp ((h x).mpr (List.mem_cons_of_mem _ m)) with rfl | m'
      · have := qb.1 x m; omega
      · exact m'
theorem Ok.pw1 {c : Int} {rs : List Rn} (h : Ok c rs) : rs.Pairwise fun a b => a.1 < b.1 :=
  h.pw.imp_of_mem fun {a b} ha _ g => by have := h.fl a ha; unfold GoesOn at g; omega
theorem Can.uniq {c : Int} {A B : List Rn} (hA : Can c A) (hB : Can c B) (h : ∀ z y, G c A z y ↔ G c B z y) : A = B := by
  have c1 := hA.1.c1
  have nf : ∀ {X : List Rn} {y : Int}, Ok c X → NoJoin c X → (∀ z w, G c X z w ↔ w = y + z) → False := fun {X y} ok n g => by
    match X, ok.ne with
    | r :: X, _ =>
      refine (n r (by simp)).2 ((g _ _).mpr ?_)
      have fl := ok.fl r (by simp)
      have := (g r.2.1 (la r)).mp ⟨r, by simp, 0, by omega, by omega, by unfold la; omega⟩
      omega
  rcases hA with ⟨oA, ⟨y, rfl⟩ | ⟨gA, nA⟩⟩ <;> rcases hB with ⟨oB, ⟨y', rfl⟩ | ⟨gB, nB⟩⟩
  · have := (h 0 y).mp ((full_G c1).mpr (by omega))
    have := (full_G c1).mp this
    rw [show y = y' by omega]
  · exact (nf oB nB fun z w => ((h z w).symm.trans (full_G c1))).elim
  · exact (nf oA nA fun z w => ((h z w).trans (full_G c1))).elim
  · exact sorted_uniq (fun r : Rn => r.1) oA.pw1 oB.pw1 fun x => ⟨can_mem oA nA gA oB nB gB h, can_mem oB nB gB oA nA gA fun z y => (h z y).symm⟩
/-! ### neighbours that don't join -/
def NJ : List Rn → Prop
  | a :: b :: r => ¬ Joins a b ∧ NJ (b :: r)
  | _ => True
theorem NJ.snoc : ∀ {K : List Rn} {l r : Rn}, NJ (K ++ [l]) → ¬ Joins l r → NJ (K ++ [l] ++ [r])
  | [], l, r, _, h => ⟨h, trivial⟩
  | [a], l, r, n, h => ⟨n.1, h, trivial⟩
  | a :: b :: K, l, r, n, h => ⟨n.1, NJ.snoc (K := b :: K) n.2 h⟩
theorem NJ.relast : ∀ {K : List Rn} {l l' : Rn}, NJ (K ++ [l]) → l'.1 = l.1 → l'.2.2 = l.2.2 → NJ (K ++ [l'])
  | [], l, l', _, _, _ => trivial
  | [a], l, l', n, h1, h2 => ⟨by have := n.1; unfold Joins at *; rw [h1, h2]; exact this, trivial⟩
  | a :: b :: K, l, l', n, h1, h2 => ⟨n.1, NJ.relast (K := b :: K) n.2 h1 h2⟩
theorem NJ.at : ∀ {p : List Rn} {a b : Rn} {q : List Rn}, NJ (p ++ a :: b :: q) → ¬ Joins a b
  | [], a, b, q, n => n.1
  | [x], a, b, q, n => n.2.1
  | x :: y :: p, a, b, q, n => NJ.at (p := y :: p) n.2
theorem NJ.tail : ∀ {a : Rn} {q : List Rn}, NJ (a :: q) → NJ q
  | a, [], _ => trivial
  | a, b :: q, n => n.2
theorem goes_asym {a b : Rn} (ha : a.1 ≤ a.2.1) (hb : b.1 ≤ b.2.1) (h : GoesOn a b) (k : GoesOn b a) : False := by
  unfold GoesOn at *; omega
theorem nojoin {c : Int} {rs : List Rn} (h : Ok c rs) (n : NJ rs) (w : ∀ a q l, rs = a :: q → rs.getLast? = some l → ¬ Joins l (mv c a)) : NoJoin c rs := by
  have up : ∀ r ∈ rs, ¬ G c rs (r.2.1 + 1) (la r + 1) := by
    rintro r hr ⟨s, hs, k, s1, s2, s3⟩
    have fr := h.fl r hr
    have fs := h.fl s hs
    have z0 : (0 : Int) * c = 0 := Int.zero_mul c
    have g : GoesOn (mv (0 * c) r) (mv (k * c) s) := by
      rcases h.tri2 hr hs 0 k with ⟨rfl, rfl⟩ | g | g
      · omega
      · exact g
      · unfold GoesOn at g; simp only [mv1, mv2, mv3, la_mv] at g; omega
    have g' := g
    unfold GoesOn at g'; simp only [mv1, mv2, mv3, la_mv] at g'
    have j : Joins r (mv (k * c) s) := by unfold Joins; unfold la at *; simp only [mv1, mv2, mv3]; omega
    have k0 : 0 ≤ k := Decidable.byContradiction fun z => by
      have := h.later hs hr (show k < 0 by omega)
      exact goes_asym (by simp only [mv1, mv2]; omega) (by simp only [mv1, mv2]; omega) g this
    -- nothing lies between r and s
    have sq : ∀ b ∈ rs, ∀ i : Int, GoesOn (mv (0 * c) r) (mv (i * c) b) → GoesOn (mv (i * c) b) (mv (k * c) s) → False := fun b hb i h1 h2 => by
      have := h.fl b hb
      unfold GoesOn at h1 h2; unfold Joins at j; simp only [mv1, mv2, mv3, la_mv] at h1 h2 j; omega
    obtain ⟨p, q, e⟩ := List.append_of_mem hr
    have pw := h.pw
    rw [e, List.pairwise_append] at pw
    have pp : ∀ b ∈ p, GoesOn b r := fun b hb => pw.2.2 b hb r (by simp)
    have before : ∀ b ∈ p, ¬ (s = b ∧ k = 0) := fun b hb ⟨e1, e2⟩ => by
      subst e1; subst e2
      have := pp s hb
      exact goes_asym (by simp only [mv1, mv2]; omega) (by simp only [mv1, mv2]; omega) g (by unfold GoesOn at *; simp only [mv1, mv2, mv3, la_mv]; omega)
    have self : ¬ (s = r ∧ k = 0) := fun ⟨e1, e2⟩ => by subst e1; subst e2; unfold GoesOn at g; simp only [mv1, mv2, mv3, la_mv] at g; omega
    match q, e with
    | [], e =>
      match rs, e, h, n, w, hr, hs, sq with
      | a :: t, e, h, n, w, hr, hs, sq =>
        have jl := w a t r rfl (by rw [e, List.getLast?_concat])
        have k1 : k = 1 := by
          rcases Int.lt_trichotomy k 1 with l | l | l
          · exfalso
            have k0' : k = 0 := by omega
            rw [e] at hs
            rcases List.mem_append.mp hs with m | m
            · exact before s m ⟨rfl, k0'⟩
            · exact self ⟨List.mem_singleton.mp m, k0'⟩
          · exact l
          · exact (sq a (by simp) 1 (h.later hr (by simp) (by omega)) (h.later (by simp) hs l)).elim
        subst k1
        rcases h.tri2 (show a ∈ a :: t by simp) hs 1 1 with ⟨e1, _⟩ | g2 | g2
        · subst e1; rw [Int.one_mul] at j; exact jl j
        · exact sq a (by simp) 1 (h.later hr (by simp) (by omega)) g2
        · -- s ahead of the head
          have fa := h.fl a (by simp)
          rcases List.mem_cons.mp hs with rfl | m
          · exact goes_asym (by simp only [mv1, mv2]; omega) (by simp only [mv1, mv2]; omega) g2 g2
          · have := (List.pairwise_cons.mp h.pw).1 s m
            exact goes_asym (by simp only [mv1, mv2]; omega) (by simp only [mv1, mv2]; omega) g2 (by unfold GoesOn at *; simp only [mv1, mv2, mv3, la_mv]; omega)
    | b :: q, e =>
      have hb : b ∈ rs := by rw [e]; simp
      have fb := h.fl b hb
      have rb : GoesOn r b := (List.pairwise_cons.mp pw.2.1).1 b (by simp)
      have rb' : GoesOn (mv (0 * c) r) (mv (0 * c) b) := by unfold GoesOn at *; simp only [mv1, mv2, mv3, la_mv]; omega
      have nj : ¬ Joins r b := by rw [e] at n; exact n.at
      rcases Int.lt_trichotomy 0 k with l | l | l
      · exact sq b hb 0 rb' (h.later hb hs l)
      · subst l
        rcases h.tri2 hb hs 0 0 with ⟨e1, _⟩ | g2 | g2
        · subst e1; apply nj; unfold Joins at *; simp only [mv1, mv2, mv3] at j; omega
        · exact sq b hb 0 rb' g2
        · rw [e] at hs
          rcases List.mem_append.mp hs with m | m
          · exact before s m ⟨rfl, rfl⟩
          · rcases List.mem_cons.mp m with rfl | m
            · exact self ⟨rfl, rfl⟩
            · rcases List.mem_cons.mp m with rfl | m
              · exact goes_asym (by simp only [mv1, mv2]; omega) (by simp only [mv1, mv2]; omega) g2 g2
              · have := (List.pairwise_cons.mp (List.pairwise_cons.mp pw.2.1).2).1 s m
                exact goes_asym (by simp only [mv1, mv2]; omega) (by simp only [mv1, mv2]; omega) g2 (by unfold GoesOn at *; simp only [mv1, mv2, mv3, la_mv]; omega)
      · omega
  refine fun r hr => ⟨?_, up r hr⟩
  rintro ⟨s, hs, k, s1, s2, s3⟩
  have fr := h.fl r hr
  have fs := h.fl s hs
  rcases h.tri2 hs hr k 0 with ⟨rfl, rfl⟩ | g | g
  · omega
  · unfold GoesOn at g; simp only [mv1, mv2, mv3, la_mv] at g
    refine up s hs ⟨r, hr, -k, ?_, ?_, ?_⟩ <;> (try rw [Int.neg_mul]) <;> unfold la at * <;> omega
  · unfold GoesOn at g; simp only [mv1, mv2, mv3, la_mv] at g; omega
end Pm

set_option linter.all false
namespace Pm
/-- a run moved so that it begins in the first cycle -/
def home (c : Int) (r : Rn) : Rn := mv (-(r.1 / c * c)) r
theorem home_mv (c : Int) (r : Rn) : home c r = mv (-(r.1 / c) * c) r := by unfold home; rw [Int.neg_mul]
theorem home_rng {c : Int} (hc : 1 ≤ c) (r : Rn) : 0 ≤ (home c r).1 ∧ (home c r).1 < c := by
  have e := Int.emod_add_mul_ediv r.1 c
  have r0 := Int.emod_nonneg r.1 (show c ≠ 0 by omega)
  have r1 := Int.emod_lt_of_pos r.1 (show 0 < c by omega)
  have e2 := Int.mul_comm c (r.1 / c)
  unfold home; simp only [mv1]; omega
theorem goes_mv {t : Int} {a b : Rn} (h : GoesOn a b) : GoesOn (mv t a) (mv t b) := by unfold GoesOn at *; simp only [mv1, mv2, mv3, la_mv]; omega
theorem mv_mv (s t : Int) (r : Rn) : mv s (mv t r) = mv (t + s) r := by unfold mv; simp only [Prod.mk.injEq]; omega
theorem home_inj {c : Int} {X : List Rn} (h : Ok c X) {a b : Rn} (ha : a ∈ X) (hb : b ∈ X) (g : GoesOn a b) : (home c a).1 ≠ (home c b).1 := by
  have fa := h.fl a ha
  have fb := h.fl b hb
  intro e
  rw [home_mv, home_mv] at e
  rcases h.tri2 ha hb (-(a.1 / c)) (-(b.1 / c)) with ⟨e1, _⟩ | k | k
  · subst e1; exact goes_asym fa fa g g
  · unfold GoesOn at k; simp only [mv1, mv2, mv3, la_mv] at k e; omega
  · unfold GoesOn at k; simp only [mv1, mv2, mv3, la_mv] at k e; omega
/-- sorted at home: the same passage -/
theorem ok_sorted {c : Int} {X Z : List Rn} (h : Ok c X) (p : Z.Perm (X.map (home c))) (s : Z.Pairwise fun a b => a.1 ≤ b.1) : Ok c Z ∧ (∀ z y, G c X z y ↔ G c Z z y) ∧ (∀ r ∈ Z, 0 ≤ r.1 ∧ r.1 < c) := by
  have c1 := h.c1
  have mem : ∀ z ∈ Z, ∃ x ∈ X, z = mv (-(x.1 / c) * c) x := fun z hz => by
    obtain ⟨x, hx, e⟩ := List.mem_map.mp (p.mem_iff.mp hz)
    exact ⟨x, hx, by rw [← e, home_mv]⟩
  have rng : ∀ r ∈ Z, 0 ≤ r.1 ∧ r.1 < c := fun r hr => by
    obtain ⟨x, hx, e⟩ := List.mem_map.mp (p.mem_iff.mp hr)
    rw [← e]; exact home_rng c1 x
  have ne1 : Z.Pairwise fun a b => a.1 ≠ b.1 := by
    have : (X.map (home c)).Pairwise fun a b => a.1 ≠ b.1 := by
      rw [List.pairwise_map]
      exact h.pw.imp_of_mem fun {a b} ha hb g => home_inj h ha hb g
    exact this.perm p.symm (fun {a b} e => Ne.symm e)
  refine ⟨⟨c1, ?_, ?_, ?_, ?_⟩, G_same (fun a ha => ⟨-(a.1 / c), p.mem_iff.mpr (List.mem_map.mpr ⟨a, ha, home_mv c a⟩)⟩) fun b hb => ?_, rng⟩
  · intro e
    rw [e] at p
    have := p.length_eq
    rw [List.length_map] at this
    have h0 := h.ne
    cases X <;> simp at this h0
  · intro r hr
    obtain ⟨x, hx, rfl⟩ := mem r hr
    have := h.fl x hx
    simp only [mv1, mv2]; omega
  · refine ((s.and ne1).imp_of_mem fun {a b} ha hb k => ?_)
    obtain ⟨x, hx, rfl⟩ := mem a ha
    obtain ⟨y, hy, rfl⟩ := mem b hb
    rcases h.tri2 hx hy (-(x.1 / c)) (-(y.1 / c)) with ⟨e1, e2⟩ | g | g
    · subst e1; exact absurd rfl k.2
    · exact g
    · have := h.fl x hx
      have := h.fl y hy
      unfold GoesOn at g; simp only [mv1, mv2, mv3, la_mv] at g k; omega
  · intro a ha b hb
    have ra := rng a ha
    have rb := rng b hb
    obtain ⟨x, hx, rfl⟩ := mem a ha
    obtain ⟨y, hy, rfl⟩ := mem b hb
    have e : mv (-c) (mv (-(x.1 / c) * c) x) = mv ((-(x.1 / c) - 1) * c) x := by rw [mv_mv, Int.sub_mul, Int.one_mul, Int.sub_eq_add_neg]
    rw [e]
    rcases h.tri2 hx hy (-(x.1 / c) - 1) (-(y.1 / c)) with ⟨e1, e2⟩ | g | g
    · subst e1; omega
    · exact g
    · have := h.fl x hx
      have := h.fl y hy
      rw [← e] at g
      unfold GoesOn at g; simp only [mv1, mv2, mv3, la_mv] at g ra rb; omega
  · obtain ⟨x, hx, rfl⟩ := mem b hb
    refine ⟨x.1 / c, ?_⟩
    rw [mv_mv, Int.neg_mul, show -(x.1 / c * c) + x.1 / c * c = 0 by omega]
    have : mv 0 x = x := by unfold mv; rcases x with ⟨a, b, d⟩; simp
    rw [this]; exact hx
theorem nojoin_same {c : Int} {X Z : List Rn} (n : NoJoin c X) (p : Z.Perm (X.map (home c))) (g : ∀ z y, G c X z y ↔ G c Z z y) : NoJoin c Z := fun r hr => by
  obtain ⟨x, hx, e⟩ := List.mem_map.mp (p.mem_iff.mp hr)
  rw [home_mv] at e
  subst e
  have := n x hx
  refine ⟨fun q => this.1 ?_, fun q => this.2 ?_⟩
  · have q2 := G_move (x.1 / c) ((g _ _).mpr q)
    simp only [mv1, mv2, mv3, la_mv, Int.neg_mul] at q2
    rwa [show x.1 + -(x.1 / c * c) - 1 + x.1 / c * c = x.1 - 1 by omega, show x.2.2 + -(x.1 / c * c) - 1 + x.1 / c * c = x.2.2 - 1 by omega] at q2
  · have q2 := G_move (x.1 / c) ((g _ _).mpr q)
    simp only [mv1, mv2, mv3, la_mv, Int.neg_mul] at q2
    rwa [show x.2.1 + -(x.1 / c * c) + 1 + x.1 / c * c = x.2.1 + 1 by omega, show la x + -(x.1 / c * c) + 1 + x.1 / c * c = la x + 1 by omega] at q2
theorem G_perm {c : Int} {A B : List Rn} (h : ∀ r, r ∈ A ↔ r ∈ B) : ∀ z y, G c A z y ↔ G c B z y := fun z y =>
  ⟨fun ⟨r, hr, q⟩ => ⟨r, (h r).mp hr, q⟩, fun ⟨r, hr, q⟩ => ⟨r, (h r).mpr hr, q⟩⟩
/-- the first run put behind the others -/
theorem ok_rot {c : Int} {a : Rn} {q : List Rn} (h : Ok c (a :: q)) : Ok c (q ++ [mv c a]) ∧ ∀ z y, G c (a :: q) z y ↔ G c (q ++ [mv c a]) z y := by
  have c1 := h.c1
  have m : ∀ r ∈ q ++ [mv c a], r ∈ q ∨ r = mv c a := fun r hr => by
    rcases List.mem_append.mp hr with x | x
    · exact .inl x
    · exact .inr (List.mem_singleton.mp x)
  have am : a ∈ a :: q := by simp
  refine ⟨⟨c1, by simp, fun r hr => ?_, ?_, fun r hr s hs => ?_⟩, G_same (fun r hr => ?_) fun r hr => ?_⟩
  · rcases m r hr with x | rfl
    · exact h.fl r (List.mem_cons_of_mem _ x)
    · have := h.fl a am; simp only [mv1, mv2]; omega
  · rw [List.pairwise_append]
    refine ⟨(List.pairwise_cons.mp h.pw).2, List.pairwise_singleton _ _, fun r hr s hs => ?_⟩
    rw [List.mem_singleton.mp hs]
    have := h.cy r (List.mem_cons_of_mem _ hr) a am
    unfold GoesOn at *; simp only [mv1, mv2, mv3, la_mv] at *; omega
  · have back : mv (-c) (mv c a) = a := by rw [mv_mv, show c + -c = 0 by omega]; unfold mv; rcases a with ⟨x, y, z⟩; simp
    rcases m r hr with x | rfl <;> rcases m s hs with y | rfl
    · exact h.cy r (List.mem_cons_of_mem _ x) s (List.mem_cons_of_mem _ y)
    · have := h.cy r (List.mem_cons_of_mem _ x) a am
      unfold GoesOn at *; simp only [mv1, mv2, mv3, la_mv] at *; omega
    · rw [back]
      exact (List.pairwise_cons.mp h.pw).1 s y
    · rw [back]
      have := h.cy a am a am
      unfold GoesOn at *; simp only [mv1, mv2, mv3, la_mv] at *; omega
  · rcases List.mem_cons.mp hr with rfl | x
    · exact ⟨1, by rw [Int.one_mul]; simp⟩
    · exact ⟨0, by
        have : mv (0 * c) r = r := by rw [Int.zero_mul]; unfold mv; rcases r with ⟨x, y, z⟩; simp
        rw [this]; exact List.mem_append_left _ x⟩
  · rcases m r hr with x | rfl
    · exact ⟨0, by
        have : mv (0 * c) r = r := by rw [Int.zero_mul]; unfold mv; rcases r with ⟨x, y, z⟩; simp
        rw [this]; exact List.mem_cons_of_mem _ x⟩
    · exact ⟨-1, by
        have : mv (-1 * c) (mv c a) = a := by rw [mv_mv, show c + -1 * c = 0 by omega]; unfold mv; rcases a with ⟨x, y, z⟩; simp
        rw [this]; exact am⟩
/-- one run over the whole cycle -/
theorem ok_full {c : Int} {a : Rn} {q : List Rn} (h : Ok c (a :: q)) (e : a.2.1 - a.1 = c - 1) : q = [] := by
  match q, h with
  | [], _ => rfl
  | b :: q, h =>
    have g := (List.pairwise_cons.mp h.pw).1 b (by simp)
    have k := h.cy b (by simp) a (by simp)
    have := h.fl b (by simp)
    unfold GoesOn at g k; simp only [mv1, mv2] at k; omega
theorem can_full {c : Int} {a : Rn} (h : Ok c [a]) (e : a.2.1 - a.1 = c - 1) : Can c [(0, c - 1, a.2.2 - a.1)] ∧ ∀ z y, G c [a] z y ↔ G c [(0, c - 1, a.2.2 - a.1)] z y := by
  have c1 := h.c1
  refine ⟨⟨⟨c1, by simp, fun r hr => by rw [List.mem_singleton.mp hr]; simp only; omega, List.pairwise_singleton _ _, fun r hr s hs => by
    rw [List.mem_singleton.mp hr, List.mem_singleton.mp hs]; unfold GoesOn la; simp only [mv1, mv2, mv3]; omega⟩, .inl ⟨_, rfl⟩⟩, fun z y => ?_⟩
  rw [full_G c1]
  constructor
  · rintro ⟨r, hr, k, _, _, rfl⟩
    rw [List.mem_singleton.mp hr]; omega
  · rintro rfl
    have e1 := Int.emod_add_mul_ediv (z - a.1) c
    have r0 := Int.emod_nonneg (z - a.1) (show c ≠ 0 by omega)
    have r1 := Int.emod_lt_of_pos (z - a.1) (show 0 < c by omega)
    have e2 := Int.mul_comm c ((z - a.1) / c)
    exact ⟨a, by simp, (z - a.1) / c, by omega, by omega, by omega⟩
/-- joined over the end of the cycle -/
theorem ok_wrap {c : Int} {a l : Rn} {m : List Rn} (h : Ok c (a :: (m ++ [l]))) (n : NJ (a :: (m ++ [l]))) (j : Joins l (mv c a)) :
    Ok c (m ++ [(l.1, a.2.1 + c, l.2.2)]) ∧ NoJoin c (m ++ [(l.1, a.2.1 + c, l.2.2)]) ∧ ∀ z y, G c (a :: (m ++ [l])) z y ↔ G c (m ++ [(l.1, a.2.1 + c, l.2.2)]) z y := by
  obtain ⟨o1, g1⟩ := ok_rot h
  rw [List.append_assoc] at o1 g1
  have o2 := Ok.join (pre := m) (post := []) o1 j
  have g2 := G_join (c := c) (pre := m) (post := []) (h.fl l (by simp)) (by have := h.fl a (by simp); simp only [mv1, mv2]; omega) j
  have eR : (l.1, (mv c a).2.1, l.2.2) = (l.1, a.2.1 + c, l.2.2) := rfl
  rw [eR] at o2 g2
  refine ⟨o2, nojoin o2 ?_ ?_, fun z y => (g1 z y).trans (g2 z y)⟩
  · exact NJ.relast n.tail rfl rfl
  · rintro b q l' e1 e2 jj
    rw [List.getLast?_concat] at e2
    cases e2
    have eL : la (l.1, a.2.1 + c, l.2.2) = la a + c := by unfold Joins at j; unfold la at *; simp only [mv1, mv3] at *; omega
    match m, e1 with
    | [], e1 =>
      simp only [List.nil_append, List.cons.injEq] at e1
      obtain ⟨rfl, rfl⟩ := e1
      have nn : ¬ Joins a l := n.1
      apply nn
      unfold Joins at *; rw [eL] at jj; simp only [mv1, mv3] at jj; omega
    | b' :: m, e1 =>
      simp only [List.cons_append, List.cons.injEq] at e1
      obtain ⟨rfl, rfl⟩ := e1
      have nn : ¬ Joins a b' := n.1
      apply nn
      unfold Joins at *; rw [eL] at jj; simp only [mv1, mv3] at jj; omega
theorem nojoin_plain {c : Int} {a l : Rn} {m : List Rn} (h : Ok c (a :: m)) (n : NJ (a :: m)) (hl : (a :: m).getLast? = some l) (j : ¬ Joins l (mv c a)) : NoJoin c (a :: m) :=
  nojoin h n fun a' q l' e1 e2 => by
    cases e1
    rw [hl] at e2
    cases e2
    exact j
theorem can_sorted {c : Int} {X Z : List Rn} (h : Ok c X) (n : NoJoin c X) (p : Z.Perm (X.map (home c))) (s : Z.Pairwise fun a b => a.1 ≤ b.1) : Can c Z ∧ ∀ z y, G c X z y ↔ G c Z z y := by
  obtain ⟨o, g, r⟩ := ok_sorted h p s
  exact ⟨⟨o, .inr ⟨r, nojoin_same n p g⟩⟩, g⟩
end Pm

set_option Elab.async false
set_option linter.all false
set_option maxRecDepth 100000
set_option maxHeartbeats 4000000
/-! sorted of tuples of d ints each, any number of them -/
namespace TsO
open PySem PyProof.Rows Srt SrtO TS
def lexL : List Int → List Int → Bool
  | x :: xs, y :: ys => if x = y then lexL xs ys else decide (x < y)
  | _, _ => false
theorem lexL_asym : ∀ xs ys : List Int, lexL xs ys = true → lexL ys xs = false
  | [], _, h => by cases h
  | _ :: _, [], h => by cases h
  | x :: xs, y :: ys, h => by
    unfold lexL at h ⊢
    by_cases e : x = y
    · subst e; rw [if_pos rfl] at h ⊢; exact lexL_asym xs ys h
    · rw [if_neg e] at h; rw [if_neg (fun q => e q.symm)]
      have := of_decide_eq_true h
      exact decide_eq_false (by omega)
theorem lexL_tr : ∀ (d : Nat) (xs ys zs : List Int), xs.length = d → ys.length = d → zs.length = d → lexL ys xs = false → lexL zs ys = false → lexL zs xs = false
  | 0, xs, ys, zs, h1, h2, h3, _, _ => by
    rw [List.length_eq_zero_iff.mp h3]; rfl
  | d + 1, x :: xs, y :: ys, z :: zs, h1, h2, h3, a, b => by
    unfold lexL at a b ⊢
    by_cases e1 : y = x
    · subst e1
      rw [if_pos rfl] at a
      by_cases e2 : z = y
      · subst e2
        rw [if_pos rfl] at b ⊢
        exact lexL_tr d xs ys zs (by simpa using h1) (by simpa using h2) (by simpa using h3) a b
      · rw [if_neg e2] at b ⊢; exact b
    · rw [if_neg e1] at a
      have a' := of_decide_eq_false a
      by_cases e2 : z = y
      · subst e2; rw [if_neg e1]; exact a
      · rw [if_neg e2] at b
        have b' := of_decide_eq_false b
        rw [if_neg (by omega)]
        exact decide_eq_false (by omega)
  | _ + 1, [], _, _, h, _, _, _, _ => by cases h
  | _ + 1, _ :: _, [], _, _, h, _, _, _ => by cases h
  | _ + 1, _ :: _, _ :: _, [], _, _, h, _, _ => by cases h
/-- by the first of d ints of each -/
def kd (k : Value → List Int) (d : Nat) (v : Value) : List Int := (k v ++ List.replicate d 0).take d
theorem kd_len (k : Value → List Int) (d : Nat) (v : Value) : (kd k d v).length = d := by unfold kd; simp
theorem kd_eq {k : Value → List Int} {d : Nat} {v : Value} (h : (k v).length = d) : kd k d v = k v := by unfold kd; rw [List.take_left' h]
theorem swo_lexL (k : Value → List Int) (d : Nat) : Swo fun v u => lexL (kd k d v) (kd k d u) :=
  ⟨fun x y h => lexL_asym _ _ h, fun x y z a b => lexL_tr d _ _ _ (kd_len ..) (kd_len ..) (kd_len ..) a b⟩
section
variable {prog : Program} {w : World} {A : Around} {E : Value → Shared → Prop} {s : Shared} {Q : Bool → Shared → Prop}
theorem lexL_kat {b : Bool} {xs ys : List Value} {ns ms : List Int} (i : Nat) (hx : IntsAre xs ns) (hy : IntsAre ys ms) (hl : ns.length = ms.length) (h : Q (lexL ns ms) s) : PySem.W.KatLex prog w A b false Q (xs.zip ys) i s := by
  induction hx generalizing ys ms i with
  | nil =>
    cases hy with
    | nil => exact PySem.W.kat_nil h
    | cons q u hy => simp at hl
  | @cons p t xs ns hx ih =>
    cases hy with
    | nil => simp at hl
    | @cons q u ys ms hy =>
      have hl' : ns.length = ms.length := by simpa using hl
      show PySem.W.KatLex prog w A b false Q ((Value.int p t, Value.int q u) :: xs.zip ys) i s
      refine PySem.W.kat_cons (wpAny_eqBool_int ?_)
      unfold lexL at h
      by_cases e : p = q
      · subst e
        rw [beq_self_eq_true]
        rw [if_pos rfl] at h
        refine PySem.W.kat_yes ?_
        first
          | exact ih (i + 1) hy hl' h
          | exact ih _ _ (i + 1) hy hl' h
      · rw [show (p == q) = false from beq_eq_false_iff_ne.mpr e]
        rw [if_neg e] at h
        exact PySem.W.kat_no (oneLt_ints _ h)
theorem ia_len {vs : List Value} {ns : List Int} (h : IntsAre vs ns) : vs.length = ns.length := by induction h with | nil => rfl | cons n t h ih => simp [ih]
theorem tups_cmp {vs : List Value} {k : Value → List Int} {d : Nat} (hp : ∀ v ∈ vs, TupInts s.heap v (k v) ∧ (k v).length = d) : Cmp prog w A s (tuples' true) (fun p => p.1 ∈ vs) (lt2 fun v u => lexL (kd k d v) (kd k d u)) := by
  intro p q hm hm'
  obtain ⟨⟨a, xs, e, ⟨o, ho, hc, n, hd⟩, i⟩, hl⟩ := hp _ hm
  obtain ⟨⟨a', xs', e', ⟨o', ho', hc', n', hd'⟩, i'⟩, hl'⟩ := hp _ hm'
  show wpAny (model prog w) A (keyLt' (tuples' true) p.1 q.1) (fun r s' => s' = s ∧ r = lexL (kd k d p.1) (kd k d q.1)) (fun _ _ => False) s
  rw [kd_eq hl, kd_eq hl']
  generalize k p.1 = u at i hl ⊢
  generalize k q.1 = v at i' hl' ⊢
  rw [e, e']
  refine PySem.W.kat_lt ho hd ho' hd' ?_
  have ls : xs.size = xs'.size := by
    have h1 := ia_len i
    have h2 := ia_len i'
    simp only [Array.length_toList] at h1 h2
    omega
  rw [show decide (xs.size < xs'.size) = false from decide_eq_false (by omega)]
  exact lexL_kat 0 i i' (by omega) ⟨rfl, rfl⟩
theorem tups_firsts {h : Heap} {k : Value → List Int} {d : Nat} (h1 : 1 ≤ d) : ∀ {vs : List Value}, (∀ v ∈ vs, TupInts h v (k v) ∧ (k v).length = d) → ∃ fs : List Value, PySem.W.KatTups h vs fs ∧ fs.length = vs.length ∧ ∀ f ∈ fs, ∃ x t, f = Value.int x t
  | [], _ => ⟨[], PySem.W.KatTups.nil, rfl, fun _ hm => by simp at hm⟩
  | v :: vs, hp => by
    obtain ⟨fs, g1, g2, g3⟩ := tups_firsts h1 (vs := vs) fun v' hm => hp v' (List.mem_cons_of_mem _ hm)
    obtain ⟨⟨a, xs, e, ⟨o, ho, hc, n, hd⟩, i⟩, hl⟩ := hp v (List.mem_cons_self ..)
    subst e
    obtain ⟨x, t, ys, hx⟩ : ∃ x t ys, xs.toList = Value.int x t :: ys := by
      generalize xs.toList = zs at i
      generalize k (Value.ref a) = ns at i hl
      cases i with
      | nil => simp at hl; omega
      | cons x t i => exact ⟨x, t, _, rfl⟩
    refine ⟨.int x t :: fs, PySem.W.KatTups.cons ho hc hd ?_ g1, by rw [List.length_cons, List.length_cons, g2], fun f hm => ?_⟩
    · have z := congrArg (fun l : List Value => l[0]?) hx
      simpa using z
    · rcases List.mem_cons.mp hm with rfl | hm
      · exact ⟨x, t, rfl⟩
      · exact g3 f hm
theorem tups_sortable {a : Addr} {vs : List Value} {k : Value → List Int} {d : Nat} (h1 : 1 ≤ d) (h0 : 0 < vs.length) (hp : ∀ v ∈ vs, TupInts s.heap v (k v) ∧ (k v).length = d) (ha : ∀ o, s.heap.get? a = some o → o.cls ≠ .type "tuple") : SortableO prog w A s a vs fun v u => lexL (kd k d v) (kd k d u) := by
  intro h' keep
  have hp' : ∀ v ∈ vs, TupInts h' v (k v) ∧ (k v).length = d := fun v hm => ⟨(hp v hm).1.keeps fun b o e c => keep b o (fun z => by subst z; exact ha o e c) e, (hp v hm).2⟩
  obtain ⟨fs, g1, g2, g3⟩ := tups_firsts h1 hp'
  refine ⟨tuples' true, fun Q E hq => ?_, tups_cmp hp'⟩
  refine PySem.W.kat_kind (T := .type "int") g1 (by omega) (fun f hm => ?_) (by rfl) ?_
  · obtain ⟨x, t, rfl⟩ := g3 f hm
    exact PySem.W.Looks.now
  · have e : (Value.type "int" != Value.type "tuple") = true := by first | decide +kernel | rfl | decide
    rw [e]
    exact hq
theorem sorted_tups {l : Addr} {vs : List Value} {k : Value → List Int} {d : Nat} {Q : Value → Shared → Prop} (h1 : 1 ≤ d) (hl : s.heap.IsList l vs.toArray) (hz : vs.length ≤ sizeLine) (hp : ∀ v ∈ vs, TupInts s.heap v (k v) ∧ (k v).length = d)
    (h : ∀ (h' : Heap) (e : Addr) (out : List Value), Srtd (fun v u => lexL (kd k d v) (kd k d u)) out → out.Perm vs → (∀ b o, s.heap.get? b = some o → h'.get? b = some o) → s.heap.objs.size ≤ e → (∃ n, h'.get? e = some (seqObj "list" out.toArray n)) → Q (.ref e) { s with heap := h' }) :
    wpAny (model prog w) A (call (.builtin "sorted") [.ref l]) Q E s := by
  refine sorted_ord (swo_lexL k d) hl hz (fun h2 h₁ a ha kk => ?_) fun out hs hb => ?_
  · refine tups_sortable (s := { s with heap := h₁ }) h1 (by omega) (fun v hm => ⟨(hp v hm).1.keeps fun b o e _ => (kk b o e).2, (hp v hm).2⟩) fun o e => ?_
    have e' : some o = some (seqObj "list" vs.toArray 0) := e.symm.trans ha
    cases e'
    intro c
    exact absurd (Value.type.inj c) (by decide)
  · exact h _ _ out hs hb.perm (fun b o e => sortedAll_old e) (Nat.le_succ _) (sortedAll_at s.heap vs out.toArray)
end
end TsO
namespace L2
open PySem PySem.Spec PyProof.Rows
/-- sorted(xs), xs a list of tuples of d ints each (k says which): a new list -/
def rSortedTs (K : PySem.W.Frag) : List V → Hp → VK → Prop := fun vs H Q => ∃ (a : Addr) (xs : List V) (k : V → List Int) (d : Nat), vs = [V.ref a] ∧ SqL K H a xs ∧ 1 ≤ d ∧ (∀ x ∈ xs, (k x).length = d ∧ ∃ t, x = V.ref t ∧ H t = some (.tup ((k x).map V.int))) ∧
  ∀ ys p, ys.Perm xs → ys.Pairwise (fun x y => TsO.lexL (k y) (k x) = false) → H p = none → Q (.ref p) (upd H p (.lst ys))
theorem ints_ofT {ns : List Int} : ∀ {us : List Value}, Vals (ns.map V.int) us → IntsAre us ns := by
  induction ns with
  | nil => intro us r; cases r; exact .nil
  | cons n ns ih =>
    intro us r
    rw [List.map_cons] at r
    cases r with
    | cons r1 rr =>
      obtain ⟨t, rfl⟩ := r1
      exact .cons n t (ih rr)
section
variable {X : Cx}
theorem cr_sortedTs : CallR X (.builtin "sorted") (rSortedTs X.K) := by
  intro pins s σ H vs us Q I r h
  obtain ⟨a, xs, k, d, rfl, hs, h1, hx, q⟩ := h
  obtain ⟨its, rv, hl, hz⟩ := I.list hs
  obtain ⟨u, rfl, ru⟩ := vals1 r
  obtain rfl : u = Value.ref a := ru
  obtain ⟨e1, e2⟩ := refs_back rv fun x m => by
    obtain ⟨_, t, e, _⟩ := hx x m
    exact ⟨t, e⟩
  have hk : ∀ v ∈ its, (k (backV v)).length = d ∧ ∃ t, v = .ref t ∧ H t = some (.tup ((k (backV v)).map V.int)) := fun v hv => by
    obtain ⟨t, rfl⟩ := e2 v hv
    have hm : V.ref t ∈ xs := by rw [e1]; exact List.mem_map.mpr ⟨_, hv, rfl⟩
    obtain ⟨hl', t', e, ht⟩ := hx _ hm
    cases e
    exact ⟨hl', t, rfl, ht⟩
  refine TsO.sorted_tups (k := fun u => k (backV u)) (d := d) h1 hl.isList (by rw [← rv.length]; exact hz) (fun v hv => ?_) fun h' e out s1 p1 kp hd hn => ?_
  · obtain ⟨hl', t, rfl, ht⟩ := hk v hv
    obtain ⟨_, its2, r2, o, ho, hc, n, hd⟩ := I.hok _ _ ht
    refine ⟨⟨t, its2.toArray, rfl, ⟨o, ho, hc, n, hd⟩, ?_⟩, hl'⟩
    rw [List.toList_toArray]
    exact ints_ofT r2
  · have h3 : ∀ u ∈ out, ∃ a, u = Value.ref a := fun u hu => e2 u (p1.mem_iff.mp hu)
    obtain ⟨n, hn⟩ := hn
    have hb : (out.map backV).Perm xs := by
      rw [e1]
      exact p1.map backV
    refine ⟨.ref e, upd H e (.lst (out.map backV)), I.laid (t' := s.toks) kp hd ⟨?_, out, n, vals_back h3, hn⟩, rfl, q _ e hb ?_ (I.hok.fresh hd)⟩
    · rw [hb.length_eq]; exact hz
    · rw [List.pairwise_map]
      refine s1.imp_of_mem fun {u v} hu hv z => ?_
      have hku := (hk u (p1.mem_iff.mp hu)).1
      have hkv := (hk v (p1.mem_iff.mp hv)).1
      have z' : TsO.lexL (TsO.kd (fun u => k (backV u)) d v) (TsO.kd (fun u => k (backV u)) d u) = false := z
      rw [TsO.kd_eq (k := fun u => k (backV u)) hku, TsO.kd_eq (k := fun u => k (backV u)) hkv] at z'
      exact z'
end
end L2

set_option Elab.async false
set_option linter.all false
set_option maxRecDepth 100000
set_option maxHeartbeats 4000000
/-! list(zip(a, b)), a and b lists or tuples in any mix -/
namespace LzO
open PySem PySem.W
theorem zip_no_len : typeLookup (.type "zip") "__len__" = pure none := by rw [typeLookup_type, builtinLookup_eq_fast]; kernel_rfl
theorem zip_no_hint : typeLookup (.type "zip") "__length_hint__" = pure none := by rw [typeLookup_type, builtinLookup_eq_fast]; kernel_rfl
section
variable {prog : Program} {w : World} {A : Around} {E : Value → Shared → Prop} {s : Shared} {z TI TO i1 i2 T : Addr} {f : Bool} {oT : Obj} {fp1 fp2 : List Addr} {n1 n2 i : Nat} {P1 P2 : Nat → Value → Prop} {St1 St2 : Nat → Heap → Prop}
theorem next_held {Q : Value → Shared → Prop} (S : ZipSep2 z TI TO i1 i2 fp1 fp2) (D1 : Draws prog w A i1 fp1 n1 P1 St1) (D2 : Draws prog w A i2 fp2 n2 P2 St2)
    (hz : IsZipHeld s.heap z TI TO T f) (hT : s.heap.get? T = some oT) (hTI : IsTupOf2 s.heap TI (.ref i1) (.ref i2)) (st1 : St1 i s.heap) (st2 : St2 i s.heap) (hlt1 : i < n1) (hlt2 : i < n2)
    (hQ : ∀ x1 x2 h' tk, P1 i x1 → P2 i x2 → IsZipHeld h' z TI TO T true → St1 (i + 1) h' → St2 (i + 1) h' → IsTupOf2 h' s.heap.objs.size x1 x2 → h'.objs.size = s.heap.objs.size + 1 →
      (∀ c o, c ≠ z → c ≠ i1 → c ≠ i2 → s.heap.get? c = some o → h'.get? c = some o) → Q (.ref s.heap.objs.size) { s with heap := h', toks := tk }) :
    wpAny (model prog w) A (Builtin.«zip.__next__» ⟨[.ref z], []⟩) (fun fin s' => ∃ v, fin = .done (.ret v) ∧ Q v s') E s := by
  obtain ⟨hp, g, d, tk0, os⟩ := s
  show wpAny _ _ (field (.ref z) 2 >>= _) _ _ _
  refine wpAny_bind (wpAny_field hz rfl (x := .bool false) rfl ?_)
  show wpAny _ _ (field (.ref z) 3 >>= _) _ _ _
  refine wpAny_bind (wpAny_field hz rfl (x := .ref TI) rfl ?_)
  refine wpAny_bind (wpAny_seqItems hTI rfl ?_)
  show wpAny _ _ (Builtin.SmallTypes.ownedTupleIsFree (.ref z) >>= _) _ _ _
  refine wpAny_bind (wpAny_tupleHeld_zip hz hT fun h₁ hz₁ hs₁ => ?_)
  replace hs₁ : Heap.SameBut z hp h₁ := hs₁
  simp only [Bool.false_eq_true, if_false]
  refine wpAny_bind ?_
  rw [← Array.forIn_toList]
  simp only [List.forIn_cons, List.forIn_nil]
  refine wpAny_bind (wpAny_bind (wpAny_holding ?_))
  show wpAny _ _ (Builtin.SmallTypes.nextOf (.ref i1) >>= _) _ _ ⟨h₁, g, d, tk0, os⟩
  refine wpAny_bind (D1.item i _ _ _ hlt1 (D1.over st1 hs₁ S.zf1) fun x1 p1 tk1 hx1 sn1 hp1 => wpAny_pure ?_)
  replace hp1 : Heap.SameBut i1 h₁ p1 := hp1
  refine wpAny_pure ?_
  refine wpAny_bind (wpAny_bind (wpAny_holding ?_))
  show wpAny _ _ (Builtin.SmallTypes.nextOf (.ref i2) >>= _) _ _ ⟨p1, g, d, tk1, os⟩
  refine wpAny_bind (D2.item i _ _ _ hlt2 (D2.over (D2.over st2 hs₁ S.zf2) hp1 S.sep1_2) fun x2 p2 tk2 hx2 sn2 hp2 => wpAny_pure ?_)
  replace hp2 : Heap.SameBut i2 p1 p2 := hp2
  refine wpAny_pure (wpAny_pure ?_)
  show wpAny _ _ (newTuple [x1, x2] >>= _) _ _ ⟨p2, g, d, tk2, os⟩
  refine wpAny_bind (wpAny_newTuple ?_)
  have hsz : p2.objs.size = hp.objs.size := by rw [hp2.1, hp1.1, hs₁.1]
  have hz₃ : IsZipHeld p2 z TI TO T true := hp2.extBut _ _ S.zi2 (hp1.extBut _ _ S.zi1 hz₁)
  have hk : ∀ c o, c ≠ z → c ≠ i1 → c ≠ i2 → hp.get? c = some o → p2.get? c = some o := fun c o c1 c2 c3 e => hp2.extBut _ _ c3 (hp1.extBut _ _ c2 (hs₁.extBut _ _ c1 e))
  have j1 : St1 (i + 1) p2 := D1.over sn1 hp2 S.sep2_1
  refine wpAny_pure ⟨_, rfl, ?_⟩
  show Q (.ref p2.objs.size) ⟨p2.push { cls := .type "tuple", data := .seq #[x1, x2] }, g, d, tk2, os⟩
  have hp' : IsTupOf2 (p2.push { cls := .type "tuple", data := .seq #[x1, x2] }) p2.objs.size x1 x2 := Heap.get?_push_size _ rfl
  have hz4 : (p2.push { cls := .type "tuple", data := .seq #[x1, x2] }).objs.size = p2.objs.size + 1 := Heap.size_push ..
  rw [hsz] at hp' hz4 ⊢
  exact hQ x1 x2 _ tk2 hx1 hx2 (Heap.get?_push_of_some _ hz₃) (D1.frame _ _ _ j1 fun b _ o e => Heap.get?_push_of_some _ e) (D2.frame _ _ _ sn2 fun b _ o e => Heap.get?_push_of_some _ e) hp' hz4 fun c o c1 c2 c3 e => Heap.get?_push_of_some _ (hk c o c1 c2 c3 e)
theorem end_held {Q : Fin → Shared → Prop} (S : ZipSep2 z TI TO i1 i2 fp1 fp2) (D1 : Draws prog w A i1 fp1 n1 P1 St1)
    (hz : IsZipHeld s.heap z TI TO T f) (hT : s.heap.get? T = some oT) (hTI : IsTupOf2 s.heap TI (.ref i1) (.ref i2)) (st1 : St1 n1 s.heap)
    (hE : ∀ h' e, (∀ c o, c ≠ z → c ≠ i1 → s.heap.get? c = some o → h'.get? c = some o) → (∃ o, h'.get? e = some o ∧ o.cls = .type "StopIteration") → E (.ref e) { s with heap := h' }) :
    wpAny (model prog w) A (Builtin.«zip.__next__» ⟨[.ref z], []⟩) Q E s := by
  obtain ⟨hp, g, d, tk0, os⟩ := s
  show wpAny _ _ (field (.ref z) 2 >>= _) _ _ _
  refine wpAny_bind (wpAny_field hz rfl (x := .bool false) rfl ?_)
  show wpAny _ _ (field (.ref z) 3 >>= _) _ _ _
  refine wpAny_bind (wpAny_field hz rfl (x := .ref TI) rfl ?_)
  refine wpAny_bind (wpAny_seqItems hTI rfl ?_)
  show wpAny _ _ (Builtin.SmallTypes.ownedTupleIsFree (.ref z) >>= _) _ _ _
  refine wpAny_bind (wpAny_tupleHeld_zip hz hT fun h₁ hz₁ hs₁ => ?_)
  replace hs₁ : Heap.SameBut z hp h₁ := hs₁
  simp only [Bool.false_eq_true, if_false]
  refine wpAny_bind ?_
  rw [← Array.forIn_toList]
  simp only [List.forIn_cons, List.forIn_nil]
  refine wpAny_bind (wpAny_bind (wpAny_holding ?_))
  show wpAny _ _ (Builtin.SmallTypes.nextOf (.ref i1) >>= _) _ _ ⟨h₁, g, d, tk0, os⟩
  refine wpAny_bind (D1.done _ _ _ (D1.over st1 hs₁ S.zf1) fun h₂ e hs₂ he => ?_)
  exact hE h₂ e (fun c o c1 c2 x => hs₂ _ _ c2 (hs₁.extBut _ _ c1 x)) he
theorem pyNext_held {Q : Option Value → Shared → Prop} (S : ZipSep2 z TI TO i1 i2 fp1 fp2) (D1 : Draws prog w A.in1 i1 fp1 n1 P1 St1) (D2 : Draws prog w A.in1 i2 fp2 n2 P2 St2)
    (hz : IsZipHeld s.heap z TI TO T f) (hT : s.heap.get? T = some oT) (hTI : IsTupOf2 s.heap TI (.ref i1) (.ref i2)) (st1 : St1 i s.heap) (st2 : St2 i s.heap) (hlt1 : i < n1) (hlt2 : i < n2)
    (hQ : ∀ x1 x2 h' tk, P1 i x1 → P2 i x2 → IsZipHeld h' z TI TO T true → St1 (i + 1) h' → St2 (i + 1) h' → IsTupOf2 h' s.heap.objs.size x1 x2 → h'.objs.size = s.heap.objs.size + 1 →
      (∀ c o, c ≠ z → c ≠ i1 → c ≠ i2 → s.heap.get? c = some o → h'.get? c = some o) → Q (some (.ref s.heap.objs.size)) { s with heap := h', toks := tk }) :
    wpAny (model prog w) A (pyNext (.ref z)) Q E s := by
  have hTy : s.TypeIs (.ref z) "zip" := ⟨_, hz, rfl⟩
  unfold pyNext
  exact wpAny_bind (wpAny_attempt (wpAny_callSpecial?_slot (name := Str.ofString "__next__") hTy F.slot_zip_next
    (wpAny_call_entry F.slot_zip_next hTy F.entry_zip_next
      (next_held S D1 D2 hz hT hTI st1 st2 hlt1 hlt2 fun x1 x2 h' tk y1 y2 b1 d1 d2 b5 b6 b7 => wpAny_pure (hQ x1 x2 h' tk y1 y2 b1 d1 d2 b5 b6 b7)) (F.args_zip_next_1 _))))
theorem pyEnd_held {Q : Option Value → Shared → Prop} (S : ZipSep2 z TI TO i1 i2 fp1 fp2) (D1 : Draws prog w A.in1 i1 fp1 n1 P1 St1)
    (hz : IsZipHeld s.heap z TI TO T f) (hT : s.heap.get? T = some oT) (hTI : IsTupOf2 s.heap TI (.ref i1) (.ref i2)) (st1 : St1 n1 s.heap)
    (hQ : ∀ h', (∀ c o, c ≠ z → c ≠ i1 → s.heap.get? c = some o → h'.get? c = some o) → Q none { s with heap := h' }) : wpAny (model prog w) A (pyNext (.ref z)) Q E s := by
  have hTy : s.TypeIs (.ref z) "zip" := ⟨_, hz, rfl⟩
  unfold pyNext
  refine wpAny_bind (wpAny_attempt (wpAny_callSpecial?_slot (name := Str.ofString "__next__") hTy F.slot_zip_next
    (wpAny_call_entry F.slot_zip_next hTy F.entry_zip_next (end_held S D1 hz hT hTI st1 fun h' e hk he => ?_) (F.args_zip_next_1 _))))
  obtain ⟨o, ho, hc⟩ := he
  refine wpAny_bind (wpAny_isInstance (T := "StopIteration") (b := true) ⟨o, ho, hc⟩ isSubtype_stop ?_)
  exact wpAny_pure (hQ _ hk)
/-- the zip's cells ahead of turn i -/
def ZSt (z TI TO i1 i2 : Addr) (base : Nat) (St1 St2 : Nat → Heap → Prop) (i : Nat) (h : Heap) : Prop := IsTupOf2 h TI (.ref i1) (.ref i2) ∧ St1 i h ∧ St2 i h ∧
  ((IsZip h z TI TO .none ∧ ∃ a1 a2, IsTupOf2 h TO a1 a2) ∨ ∃ (T : Nat) (f : Bool) (oT : Obj), IsZipHeld h z TI TO T f ∧ h.get? T = some oT ∧ base ≤ T)
/-- what has been made -/
structure Got (P1 P2 : Nat → Value → Prop) (base i : Nat) (h : Heap) (as : List Addr) : Prop where
  len : as.length = i
  asc : as.Pairwise fun a b : Nat => a < b
  rng : ∀ a ∈ as, base ≤ (a : Nat)
  at_ : ∀ j a, as[j]? = some a → ∃ x y, P1 j x ∧ P2 j y ∧ IsTupOf2 h a x y
theorem Got.moved {base i : Nat} {h h' : Heap} {as : List Addr} (g : Got P1 P2 base i h as) (hk : ∀ b : Nat, base ≤ b → ∀ o, h.get? b = some o → h'.get? b = some o) : Got P1 P2 base i h' as :=
  ⟨g.len, g.asc, g.rng, fun j a e => by
    obtain ⟨x, y, p, q, t⟩ := g.at_ j a e
    exact ⟨x, y, p, q, hk a (g.rng a (List.mem_of_getElem? e)) _ t⟩⟩
theorem Got.push {base i : Nat} {h h' : Heap} {as : List Addr} {x y : Value} (g : Got P1 P2 base i h as) (hb : base ≤ h.objs.size) (hk : ∀ b : Nat, base ≤ b → ∀ o, h.get? b = some o → h'.get? b = some o) (px : P1 i x) (py : P2 i y) (ht : IsTupOf2 h' h.objs.size x y) :
    Got P1 P2 base (i + 1) h' (as ++ [h.objs.size]) := by
  have g' := g.moved (h' := h') hk
  refine ⟨by rw [List.length_append, g.len]; rfl, ?_, fun a m => ?_, fun j a e => ?_⟩
  · rw [List.pairwise_append]
    refine ⟨g.asc, List.pairwise_singleton _ _, fun a ha b hb' => ?_⟩
    rw [List.mem_singleton.mp hb']
    obtain ⟨j, hj⟩ := List.mem_iff_getElem?.mp ha
    obtain ⟨_, _, _, _, t⟩ := g.at_ j a hj
    exact Heap.lt_size t
  · rcases List.mem_append.mp m with m | m
    · exact g'.rng a m
    · rw [List.mem_singleton.mp m]
      exact hb
  · by_cases hj : j < as.length
    · rw [List.getElem?_append_left hj] at e
      exact g'.at_ j a e
    · rw [List.getElem?_append_right (by omega)] at e
      have hj2 : j - as.length = 0 := by
        have := (List.getElem?_eq_some_iff.mp e).1
        simp at this
        exact this
      rw [hj2] at e
      cases e
      have : j = i := by have := g.len; omega
      subst this
      exact ⟨x, y, px, py, ht⟩
end
section
variable {prog : Program} {w : World} {A : Around} {R : Result → Shared → Prop} {z TI TO i1 i2 S : Addr} {fp1 fp2 : List Addr} {n base : Nat} {P1 P2 : Nat → Value → Prop} {St1 St2 : Nat → Heap → Prop}
theorem zl_loop (hh : A.handled = none) (Z : ZipSep2 z TI TO i1 i2 fp1 fp2) (D1 : Draws prog w A.in1.in1 i1 fp1 n P1 St1) (D2 : Draws prog w A.in1.in1 i2 fp2 n P2 St2) (hn : n ≤ sizeLine) (res : Value)
    (Sz : S ≠ z) (STI : S ≠ TI) (STO : S ≠ TO) (Sf1 : S ∉ fp1) (Sf2 : S ∉ fp2) (bz : (z : Nat) < base) (bO : (TO : Nat) < base) (b1 : (i1 : Nat) < base) (b2 : (i2 : Nat) < base) (bS : (S : Nat) < base) :
    ∀ (k i : Nat) (s : Shared) (as : List Addr) (c : Nat), n - i = k → i ≤ n → ZSt z TI TO i1 i2 base St1 St2 i s.heap → s.heap.get? S = some { cls := .type "list", dict := none, data := .seq (as.map Value.ref).toArray c, slots := #[] } → Got P1 P2 base i s.heap as → base ≤ s.heap.objs.size →
    (∀ (h' : Heap) (tk : Nat) (as' : List Addr) (c' : Nat), (∀ b o, b ≠ S → b ≠ z → b ≠ TO → b ≠ i1 → b ≠ i2 → s.heap.get? b = some o → h'.get? b = some o) → h'.get? S = some { cls := .type "list", dict := none, data := .seq (as'.map Value.ref).toArray c', slots := #[] } → Got P1 P2 base n h' as' → R (.ok (.ret res)) { s with heap := h', toks := tk }) →
    codeAny (model prog w) A (.builtin "list.extend.loop" ⟨[.ref S, .ref z, res], []⟩) R s := by
  have Si1 : S ≠ i1 := fun e => Sf1 (e ▸ Z.mem1)
  have Si2 : S ≠ i2 := fun e => Sf2 (e ▸ Z.mem2)
  have up : ∀ {b : Nat}, base ≤ b → (b : Addr) ≠ z ∧ (b : Addr) ≠ TO ∧ (b : Addr) ≠ i1 ∧ (b : Addr) ≠ i2 ∧ (b : Addr) ≠ S := fun {b} hb =>
    ⟨Nat.ne_of_gt (Nat.lt_of_lt_of_le bz hb), Nat.ne_of_gt (Nat.lt_of_lt_of_le bO hb), Nat.ne_of_gt (Nat.lt_of_lt_of_le b1 hb), Nat.ne_of_gt (Nat.lt_of_lt_of_le b2 hb), Nat.ne_of_gt (Nat.lt_of_lt_of_le bS hb)⟩
  intro k
  induction k with
  | zero =>
    intro i s as c hk hi hst hS hg hb hR
    have hin : i = n := by omega
    subst hin
    refine codeAny_builtin F.entry_extend_loop ?_
    rw [Around.under_plainId F.plain_extend_loop _]
    show wpAny _ A.in1 (pyNext (.ref z) >>= _) _ _ s
    refine wpAny_bind ?_
    obtain ⟨hTI, st1, st2, ⟨hz, a1, a2, hTO⟩ | ⟨T, f, oT, hz, hT, hTS⟩⟩ := hst
    · refine wpAny_pyNext_zipD2_end Z D1 D2 hz hTI hTO st1 st2 (Nat.le_refl _) (Nat.le_refl _) (.inl rfl) fun h' tk hk => ?_
      refine wpAny_pure (hR h' tk as c (fun b o c1 c2 c3 c4 c5 e => hk b o c2 c3 c4 c5 e) (hk S _ Sz STO Si1 Si2 hS) (hg.moved fun b hb' o e => ?_))
      obtain ⟨u1, u2, u3, u4, u5⟩ := up hb'
      exact hk _ o u1 u2 u3 u4 e
    · refine pyEnd_held Z D1 hz hT hTI st1 fun h' hk => ?_
      refine wpAny_pure (hR h' s.toks as c (fun b o c1 c2 c3 c4 c5 e => hk b o c2 c4 e) (hk S _ Sz Si1 hS) (hg.moved fun b hb' o e => ?_))
      obtain ⟨u1, u2, u3, u4, u5⟩ := up hb'
      exact hk _ o u1 u3 e
  | succ k ih =>
    intro i s as c hk hi hst hS hg hb hR
    have hlt : i < n := by omega
    refine codeAny_builtin F.entry_extend_loop ?_
    rw [Around.under_plainId F.plain_extend_loop _]
    show wpAny _ A.in1 (pyNext (.ref z) >>= _) _ _ s
    refine wpAny_bind ?_
    have lz : as.length = i := hg.len
    -- the same for both ways in which the zip makes its tuple
    have go : ∀ (h' : Heap) (tk : Nat), ZSt z TI TO i1 i2 base St1 St2 (i + 1) h' → (∀ b o, b ≠ z → b ≠ TO → b ≠ i1 → b ≠ i2 → s.heap.get? b = some o → h'.get? b = some o) → Got P1 P2 base (i + 1) h' (as ++ [s.heap.objs.size]) → h'.objs.size = s.heap.objs.size + 1 →
        wpAny (model prog w) A.in1 (do updateSeq S (·.push (.ref s.heap.objs.size)); again (.builtin "list.extend.loop" ⟨[.ref S, .ref z, res], []⟩))
          (fun fin s' => match fin with | .done f => R (.ok f) s' | .again c' => c'.quiet = true ∧ codeAny (model prog w) A c' R s') (fun e s' => R (.error e) s') { s with heap := h', toks := tk } := by
      intro h' tk zs hk' hg' hsz
      have hS' := hk' S _ Sz STO Si1 Si2 hS
      have e0 : (h'.update S (Obj.mapSeq (·.push (Value.ref s.heap.objs.size)))).get? S = some { cls := .type "list", dict := none, data := .seq ((as.map Value.ref).toArray.push (Value.ref s.heap.objs.size)) _, slots := #[] } := Heap.get?_update_self _ hS' rfl
      rw [show (as.map Value.ref).toArray.push (Value.ref s.heap.objs.size) = ((as ++ [s.heap.objs.size]).map Value.ref).toArray by simp] at e0
      have oth : ∀ b o, b ≠ S → h'.get? b = some o → (h'.update S (Obj.mapSeq (·.push (.ref s.heap.objs.size)))).get? b = some o := fun b o hb' e => (Heap.get?_update_other _ _ (Ne.symm hb')).trans e
      have zs' : ZSt z TI TO i1 i2 base St1 St2 (i + 1) (h'.update S (Obj.mapSeq (·.push (.ref s.heap.objs.size)))) := by
        obtain ⟨hTI, st1, st2, zz⟩ := zs
        refine ⟨oth _ _ (Ne.symm STI) hTI, D1.frame _ _ _ st1 fun b hb' o e => oth b o (fun q => Sf1 (q ▸ hb')) e, D2.frame _ _ _ st2 fun b hb' o e => oth b o (fun q => Sf2 (q ▸ hb')) e, ?_⟩
        rcases zz with ⟨hz, a1, a2, hTO⟩ | ⟨T, f, oT, hz, hT, hTb⟩
        · exact .inl ⟨oth _ _ (Ne.symm Sz) hz, a1, a2, oth _ _ (Ne.symm STO) hTO⟩
        · exact .inr ⟨T, f, oT, oth _ _ (Ne.symm Sz) hz, oth _ _ (up hTb).2.2.2.2 hT, hTb⟩
      refine wpAny_bind (wpAny_updateSeq hS' rfl (wpAny_pure ⟨plainId_quiet F.plain_extend_loop _, ih (i + 1) _ (as ++ [s.heap.objs.size]) _ (by omega) hlt zs' e0 (hg'.moved fun b hb' o e => oth b o (up hb').2.2.2.2 e) (by show base ≤ (h'.update S _).objs.size; rw [Heap.size_update]; omega) fun h2 tk2 as2 c2 hk2 hS2 hg2 =>
        hR h2 tk2 as2 c2 (fun b o c1 c2' c3 c4 c5 e => hk2 b o c1 c2' c3 c4 c5 (oth b o c1 (hk' b o c2' c3 c4 c5 e))) hS2 hg2⟩) ?_ ?_)
      · show (as.map Value.ref).toArray.size ≤ sizeLine
        simp only [List.size_toArray, List.length_map]; omega
      · show ((as.map Value.ref).toArray.push _).size ≤ sizeLine + 1
        simp only [Array.size_push, List.size_toArray, List.length_map]; omega
    have hne : (s.heap.objs.size : Nat) ≠ S := Nat.ne_of_gt (Heap.lt_size hS)
    obtain ⟨hTI, st1, st2, ⟨hz, a1, a2, hTO⟩ | ⟨T, f, oT, hz, hT, hTS⟩⟩ := hst
    · refine wpAny_pyNext_zipD2_item Z D1 D2 hz hTI hTO st1 st2 hlt hlt fun x1 x2 h' tk y1 y2 b1' b2' d1 d2 b5 b6 hk' => ?_
      refine go h' tk ⟨hk' _ _ Z.TIz Z.TITO Z.TIi1 Z.TIi2 hTI, d1, d2, .inr ⟨_, false, _, b1', b5, hb⟩⟩ hk' (hg.push hb (fun b hb' o e => ?_) y1 y2 b5) b6
      obtain ⟨u1, u2, u3, u4, u5⟩ := up hb'
      exact hk' _ o u1 u2 u3 u4 e
    · refine pyNext_held Z D1 D2 hz hT hTI st1 st2 hlt hlt fun x1 x2 h' tk y1 y2 b1' d1 d2 b5 b6 hk' => ?_
      obtain ⟨v1, v2, v3, v4, v5⟩ := up hTS
      refine go h' tk ⟨hk' _ _ Z.TIz Z.TIi1 Z.TIi2 hTI, d1, d2, .inr ⟨_, true, oT, b1', hk' _ _ v1 v3 v4 hT, hTS⟩⟩ (fun b o c1 _ c3 c4 e => hk' b o c1 c3 c4 e) (hg.push hb (fun b hb' o e => ?_) y1 y2 b5) b6
      obtain ⟨u1, u2, u3, u4, u5⟩ := up hb'
      exact hk' _ o u1 u3 u4 e
end
section
variable {prog : Program} {w : World} {A : Around} {R : Result → Shared → Prop} {s : Shared} {z TI TO i1 i2 S : Addr} {fp1 fp2 : List Addr} {n : Nat} {P1 P2 : Nat → Value → Prop} {St1 St2 : Nat → Heap → Prop}
/-- what list(z) needs of the zip at z -/
structure Zs (prog : Program) (w : World) (A : Around) (z TI TO i1 i2 : Addr) (fp1 fp2 : List Addr) (n : Nat) (P1 P2 : Nat → Value → Prop) (St1 St2 : Nat → Heap → Prop) (h : Heap) : Prop where
  sep : ZipSep2 z TI TO i1 i2 fp1 fp2
  d1 : Draws prog w A i1 fp1 n P1 St1
  d2 : Draws prog w A i2 fp2 n P2 St2
  le : n ≤ sizeLine
  hz : IsZip h z TI TO .none
  hT : IsTupOf2 h TI (.ref i1) (.ref i2)
  hO : IsTupOf2 h TO .none .none
  s1 : St1 0 h
  s2 : St2 0 h
  l1 : ∀ b ∈ fp1, (b : Nat) < h.objs.size
  l2 : ∀ b ∈ fp2, (b : Nat) < h.objs.size
theorem Zs.keep {h h' : Heap} (q : Zs prog w A z TI TO i1 i2 fp1 fp2 n P1 P2 St1 St2 h) (hs : h.objs.size ≤ h'.objs.size) (hk : ∀ b o, h.get? b = some o → (b : Nat) < h.objs.size → h'.get? b = some o) (hf1 : ∀ b ∈ fp1, ∀ o, h.get? b = some o → h'.get? b = some o) (hf2 : ∀ b ∈ fp2, ∀ o, h.get? b = some o → h'.get? b = some o) : Zs prog w A z TI TO i1 i2 fp1 fp2 n P1 P2 St1 St2 h' :=
  ⟨q.sep, q.d1, q.d2, q.le, hk _ _ q.hz (Heap.lt_size q.hz), hk _ _ q.hT (Heap.lt_size q.hT), hk _ _ q.hO (Heap.lt_size q.hO), q.d1.frame _ _ _ q.s1 hf1, q.d2.frame _ _ _ q.s2 hf2, fun b m => Nat.lt_of_lt_of_le (q.l1 b m) hs, fun b m => Nat.lt_of_lt_of_le (q.l2 b m) hs⟩
theorem zl_extend (hh : A.handled = none) (q : Zs prog w A.in1.in1 z TI TO i1 i2 fp1 fp2 n P1 P2 St1 St2 s.heap) (res : Value) (c₀ : Nat) (hS : s.heap.get? S = some { cls := .type "list", data := .seq #[] c₀ }) (Sf1 : S ∉ fp1) (Sf2 : S ∉ fp2)
    (hR : ∀ (h' : Heap) (tk : Nat) (as' : List Addr) (c' : Nat), (∀ b o, b ≠ S → b ≠ z → b ≠ TO → b ≠ i1 → b ≠ i2 → s.heap.get? b = some o → h'.get? b = some o) → h'.get? S = some { cls := .type "list", dict := none, data := .seq (as'.map Value.ref).toArray c', slots := #[] } → Got P1 P2 s.heap.objs.size n h' as' → R (.ok (.ret res)) { s with heap := h', toks := tk }) :
    wpAny (model prog w) A.in1 (Builtin.List.listExtendWith (.ref S) (.ref z) res)
      (fun fin s' => match fin with | .done f => R (.ok f) s' | .again c' => c'.quiet = true ∧ codeAny (model prog w) A c' R s') (fun e s' => R (.error e) s') s := by
  have hTz : s.TypeIs (.ref z) "zip" := ⟨_, q.hz, rfl⟩
  have Sz : S ≠ z := fun e => by rw [e, q.hz] at hS; simp at hS
  have STI : S ≠ TI := fun e => by rw [e, q.hT] at hS; simp at hS
  have STO : S ≠ TO := fun e => by rw [e, q.hO] at hS; simp at hS
  unfold Builtin.List.listExtendWith
  refine wpAny_bind (wpAny_typeOf hTz ?_)
  have h1 : Builtin.List.listSameRef (.ref S) (.ref z) = false := by simp [Builtin.List.listSameRef, Sz]
  have h2 : (Value.type "zip" == Value.type "list") = false := by decide
  have h3 : (Value.type "zip" == Value.type "tuple") = false := by decide
  simp only [h1, h2, h3, Bool.or_false, Bool.false_eq_true, if_false]
  refine wpAny_bind (wpAny_pyIter_zip q.hz ?_)
  refine wpAny_bind (wpAny_holding ?_)
  unfold Builtin.List.listLengthHint
  refine wpAny_bind (wpAny_specialOf hTz zip_no_len ?_)
  show wpAny _ A.in1 (specialOf (Value.ref z) (Str.ofString "__length_hint__") >>= _) _ _ _
  refine wpAny_bind (wpAny_specialOf hTz zip_no_hint ?_)
  refine wpAny_pure ?_
  show wpAny _ A.in1 (rule "list.extend.makes-room" >>= fun _ => Builtin.List.listTouch (.ref S) >>= fun _ =>
    again (.builtin "list.extend.loop" ⟨[.ref S, .ref z, res], []⟩)) _ _ _
  refine wpAny_bind (wpAny_rule ?_)
  refine wpAny_bind ?_
  show wpAny _ A.in1 (updateSeq S (·.push .none) >>= fun _ => updateSeq S (·.pop)) _ _ _
  refine wpAny_bind (wpAny_updateSeq hS rfl ?_)
  have hS₂ := Heap.get?_update_self (Obj.mapSeq (·.push Value.none)) hS rfl
  refine wpAny_updateSeq (hz := by seq_fits) hS₂ rfl ?_
  have hS₃ := Heap.get?_update_self (Obj.mapSeq (·.pop)) hS₂ rfl
  have oth : ∀ b o, b ≠ S → s.heap.get? b = some o → ((s.heap.update S (Obj.mapSeq (·.push Value.none))).update S (Obj.mapSeq (·.pop))).get? b = some o :=
    fun b o hb e => (Heap.get?_update_other _ _ (Ne.symm hb)).trans ((Heap.get?_update_other _ _ (Ne.symm hb)).trans e)
  have hsz : ((s.heap.update S (Obj.mapSeq (·.push Value.none))).update S (Obj.mapSeq (·.pop))).objs.size = s.heap.objs.size := by rw [Heap.size_update, Heap.size_update]
  refine wpAny_pure ⟨plainId_quiet F.plain_extend_loop _, zl_loop (base := s.heap.objs.size) hh q.sep q.d1 q.d2 q.le res Sz STI STO Sf1 Sf2 (Heap.lt_size q.hz) (Heap.lt_size q.hO) (q.l1 _ q.sep.mem1) (q.l2 _ q.sep.mem2) (Heap.lt_size hS) n 0 _ [] _ rfl (Nat.zero_le _) ?_ hS₃
    ⟨rfl, .nil, fun _ m => (List.not_mem_nil m).elim, fun j a e => (nomatch (show ([] : List Addr)[j]? = some a from e))⟩ (by show s.heap.objs.size ≤ _; rw [hsz]; exact Nat.le_refl _) fun h' tk as' c' hk hS' hg => ?_⟩
  · exact ⟨oth _ _ (Ne.symm STI) q.hT, q.d1.frame _ _ _ q.s1 fun b m o e => oth b o (fun x => Sf1 (x ▸ m)) e, q.d2.frame _ _ _ q.s2 fun b m o e => oth b o (fun x => Sf2 (x ▸ m)) e, .inl ⟨oth _ _ (Ne.symm Sz) q.hz, _, _, oth _ _ (Ne.symm STO) q.hO⟩⟩
  · exact hR h' tk as' c' (fun b o c1 c2 c3 c4 c5 e => hk b o c1 c2 c3 c4 c5 (oth b o c1 e)) hS' hg
theorem zl_init (hh : A.handled = none) (q : Zs prog w A.in1.in1 z TI TO i1 i2 fp1 fp2 n P1 P2 St1 St2 s.heap) (hS : s.heap.get? S = some { cls := .type "list", data := .seq #[] }) (Sf1 : S ∉ fp1) (Sf2 : S ∉ fp2)
    (hR : ∀ (h' : Heap) (tk : Nat) (as' : List Addr) (c' : Nat), (∀ b o, b ≠ S → b ≠ z → b ≠ TO → b ≠ i1 → b ≠ i2 → s.heap.get? b = some o → h'.get? b = some o) → h'.get? S = some { cls := .type "list", dict := none, data := .seq (as'.map Value.ref).toArray c', slots := #[] } → Got P1 P2 s.heap.objs.size n h' as' → R (.ok (.ret .none)) { s with heap := h', toks := tk }) :
    wpAny (model prog w) A.in1 (Builtin.«list.__init__» ⟨[.ref S, .ref z], []⟩)
      (fun fin s' => match fin with | .done f => R (.ok f) s' | .again c' => c'.quiet = true ∧ codeAny (model prog w) A c' R s') (fun e s' => R (.error e) s') s := by
  show wpAny _ A.in1 (do let old ← Builtin.List.listItems (.ref S); Builtin.List.listUpdate (.ref S) (fun _ => #[]); letGo old.toList.reverse; Builtin.List.listExtendWith (.ref S) (.ref z) .none) _ _ s
  refine wpAny_bind ?_
  unfold Builtin.List.listItems
  refine wpAny_bind (wpAny_seqItems hS rfl (wpAny_pure ?_))
  show wpAny _ A.in1 (updateSeq S (fun _ => #[]) >>= fun _ => letGo (#[] : Array Value).toList.reverse >>= fun _ => Builtin.List.listExtendWith (.ref S) (.ref z) .none) _ _ s
  refine wpAny_bind (wpAny_updateSeq hS rfl ?_)
  have hS₂ := Heap.get?_update_self (Obj.mapSeq (fun _ => (#[] : Array Value))) hS rfl
  have oth : ∀ b o, b ≠ S → s.heap.get? b = some o → (s.heap.update S (Obj.mapSeq (fun _ => (#[] : Array Value)))).get? b = some o :=
    fun b o hb e => (Heap.get?_update_other _ _ (Ne.symm hb)).trans e
  refine wpAny_bind (wpAny_letGo ?_)
  have Sz : S ≠ z := fun e => by rw [e, q.hz] at hS; simp at hS
  have STI : S ≠ TI := fun e => by rw [e, q.hT] at hS; simp at hS
  have STO : S ≠ TO := fun e => by rw [e, q.hO] at hS; simp at hS
  have hsz : (s.heap.update S (Obj.mapSeq (fun _ => (#[] : Array Value)))).objs.size = s.heap.objs.size := by rw [Heap.size_update]
  have q' : Zs prog w A.in1.in1 z TI TO i1 i2 fp1 fp2 n P1 P2 St1 St2 (s.heap.update S (Obj.mapSeq (fun _ => (#[] : Array Value)))) :=
    ⟨q.sep, q.d1, q.d2, q.le, oth _ _ (Ne.symm Sz) q.hz, oth _ _ (Ne.symm STI) q.hT, oth _ _ (Ne.symm STO) q.hO, q.d1.frame _ _ _ q.s1 fun b m o e => oth b o (fun x => Sf1 (x ▸ m)) e, q.d2.frame _ _ _ q.s2 fun b m o e => oth b o (fun x => Sf2 (x ▸ m)) e,
      fun b m => by rw [hsz]; exact q.l1 b m, fun b m => by rw [hsz]; exact q.l2 b m⟩
  refine zl_extend (s := { s with heap := s.heap.update S (Obj.mapSeq (fun _ => (#[] : Array Value))) }) hh q' .none _ hS₂ Sf1 Sf2 fun h' tk as' c' hk hS' hg => ?_
  rw [show (Shared.heap { s with heap := s.heap.update S (Obj.mapSeq (fun _ => (#[] : Array Value))) }).objs.size = s.heap.objs.size from hsz] at hg
  exact hR h' tk as' c' (fun b o c1 c2 c3 c4 c5 e => hk b o c1 c2 c3 c4 c5 (oth b o c1 e)) hS' hg
end
section
variable {prog : Program} {w : World} {A : Around} {E : Value → Shared → Prop} {s : Shared} {z TI TO i1 i2 : Addr} {fp1 fp2 : List Addr} {n : Nat} {P1 P2 : Nat → Value → Prop} {St1 St2 : Nat → Heap → Prop}
theorem zl_call {Q : Value → Shared → Prop} (hh : A.handled = none) (q : Zs prog w A.in1.in1.in1 z TI TO i1 i2 fp1 fp2 n P1 P2 St1 St2 s.heap)
    (hQ : ∀ (h' : Heap) (tk : Nat) (as' : List Addr) (c' : Nat), (∀ b o, b ≠ z → b ≠ TO → b ≠ i1 → b ≠ i2 → s.heap.get? b = some o → h'.get? b = some o) → h'.get? s.heap.objs.size = some { cls := .type "list", dict := none, data := .seq (as'.map Value.ref).toArray c', slots := #[] } → Got P1 P2 (s.heap.objs.size + 1) n h' as' → Q (.ref s.heap.objs.size) { s with heap := h', toks := tk }) :
    wpAny (model prog w) A (call (.type "list") [.ref z]) Q E s := by
  refine callType_codes (Q₁ := fun obj s₁ => obj = .ref s.heap.objs.size ∧ s₁ = { s with heap := s.heap.push { cls := .type "list", data := .seq #[] } }) F.called_list (F.typeCall_list_1 _) F.entry_list_init
    (code_list_new _ ⟨rfl, rfl⟩) fun obj s₁ h₁ => ?_
  obtain ⟨rfl, rfl⟩ := h₁
  have hS : (s.heap.push { cls := .type "list", data := .seq #[] }).get? s.heap.objs.size = some { cls := .type "list", data := .seq #[] } := Heap.get?_push_size _ rfl
  have hsz : (s.heap.push { cls := .type "list", data := .seq #[] }).objs.size = s.heap.objs.size + 1 := Heap.size_push ..
  have q' := q.keep (h' := s.heap.push { cls := .type "list", data := .seq #[] }) (by rw [hsz]; exact Nat.le_succ _) (fun b o e _ => Heap.get?_push_of_some _ e) (fun b _ o e => Heap.get?_push_of_some _ e) (fun b _ o e => Heap.get?_push_of_some _ e)
  refine ⟨⟨_, hS, rfl⟩, F.args_list_init_2 _ _, zl_init (A := A.in1) (s := { s with heap := s.heap.push { cls := .type "list", data := .seq #[] } }) hh q' hS (fun m => Nat.lt_irrefl _ (q.l1 _ m)) (fun m => Nat.lt_irrefl _ (q.l2 _ m)) fun h' tk as' c' hk hS' hg => ?_⟩
  refine ⟨rfl, hQ h' tk as' c' (fun b o c2 c3 c4 c5 e => hk b o (Nat.ne_of_lt (Heap.lt_size e)) c2 c3 c4 c5 (Heap.get?_push_of_some _ e)) hS' ?_⟩
  rw [show (Shared.heap { s with heap := s.heap.push { cls := .type "list", data := .seq #[] } }).objs.size = s.heap.objs.size + 1 from hsz] at hg
  exact hg
end
end LzO

set_option Elab.async false
set_option linter.all false
set_option maxRecDepth 100000
set_option maxHeartbeats 4000000
namespace L2
open PySem PySem.Spec PyProof.Rows
def putTs (H : Hp) : List Addr → List (List V) → Hp
  | a :: as, z :: zs => putTs (upd H a (.tup z)) as zs
  | _, _ => H
theorem putTs_off {b : Addr} : ∀ (as : List Addr) (zs : List (List V)) (H : Hp), b ∉ as → putTs H as zs b = H b
  | [], _, _, _ => rfl
  | _ :: _, [], _, _ => rfl
  | a :: as, z :: zs, H, h => by
    show putTs (upd H a (.tup z)) as zs b = H b
    rw [putTs_off as zs _ fun m => h (List.mem_cons_of_mem _ m), upd_ne fun e => h (by rw [e]; exact List.mem_cons_self)]
theorem putTs_at : ∀ (as : List Addr) (zs : List (List V)) (H : Hp), as.length = zs.length → as.Nodup → Paired (fun (t : Addr) (z : List V) => putTs H as zs t = some (.tup z)) as zs
  | [], [], _, _, _ => .nil
  | [], _ :: _, _, h, _ => by cases h
  | _ :: _, [], _, h, _ => by cases h
  | a :: as, z :: zs, H, h, nd => by
    have n := List.nodup_cons.mp nd
    refine .cons ?_ (putTs_at as zs _ (by simpa using h) n.2)
    show putTs (upd H a (.tup z)) as zs a = some (.tup z)
    rw [putTs_off as zs _ n.1, upd_same]
theorem pget {α β : Type} {F : α → β → Prop} : ∀ {xs : List α} {ys : List β}, Paired F xs ys → ∀ {x : α}, x ∈ xs → ∃ (j : Nat) (y : β), xs[j]? = some x ∧ ys[j]? = some y ∧ F x y
  | _, _, .cons r t, x, m => by
    rcases List.mem_cons.mp m with rfl | m
    · exact ⟨0, _, rfl, rfl, r⟩
    · obtain ⟨j, y, a, b, c⟩ := pget t m
      exact ⟨j + 1, y, a, b, c⟩
theorem vals_refs' : ∀ as : List Addr, Vals (as.map V.ref) (as.map Value.ref)
  | [] => .nil
  | a :: as => .cons rfl (vals_refs' as)
section
variable {X : Cx}
/-- a new list of new tuples -/
theorem tups_laid {pins : List (Addr × Obj)} {σ : L2.St} {H : Hp} {s : Shared} {h' : Heap} {tk : Nat} {zs : List (List V)} {p : Addr} {c : Nat} {as : List Addr} (I : Inv X pins σ H s) (hz : as.length ≤ sizeLine) (hl : as.length = zs.length) (hp : s.heap.objs.size ≤ p)
    (hk : ∀ b o, s.heap.get? b = some o → h'.get? b = some o) (hS : h'.get? p = some { cls := .type "list", dict := none, data := .seq (as.map Value.ref).toArray c, slots := #[] }) (nd : as.Nodup) (hn : ∀ a ∈ as, s.heap.objs.size ≤ (a : Nat)) (hpn : p ∉ as)
    (hc : ∀ (j : Nat) (a : Addr) (z : List V), as[j]? = some a → zs[j]? = some z → z.length ≤ sizeLine ∧ ∃ us : List Value, Vals z us ∧ h'.get? a = some { cls := .type "tuple", data := .seq us.toArray }) :
    ∃ H' : Hp, Same H H' ∧ H p = none ∧ (∀ t ∈ as, H t = none) ∧ H' p = some (.lst (as.map V.ref)) ∧ Paired (fun (t : Addr) (z : List V) => H' t = some (.tup z)) as zs ∧ Inv X pins σ H' { s with heap := h', toks := tk } := by
  have new : ∀ t ∈ as, H t = none := fun t ht => I.hok.fresh (hn t ht)
  have newS : H p = none := I.hok.fresh hp
  have atP := putTs_at as zs (upd H p (.lst (as.map V.ref))) hl nd
  have off : ∀ b, b ∉ as → b ≠ p → putTs (upd H p (.lst (as.map V.ref))) as zs b = H b := fun b h1 h2 => by rw [putTs_off as zs _ h1, upd_ne h2]
  have low : ∀ b o, s.heap.get? b = some o → b ∉ as ∧ b ≠ p := fun b o e => ⟨fun z => absurd (Heap.lt_size e) (Nat.not_lt.mpr (hn b z)), fun z => absurd (Heap.lt_size e) (Nat.not_lt.mpr (z ▸ hp))⟩
  have kp : ∀ b u, H b = some u → (putTs (upd H p (.lst (as.map V.ref))) as zs) b = some u := fun b u e => by
    rw [off b (fun z => by rw [new b z] at e; cases e) (fun z => by rw [z, newS] at e; cases e)]
    exact e
  have eS : putTs (upd H p (.lst (as.map V.ref))) as zs p = some (.lst (as.map V.ref)) := by rw [putTs_off as zs _ hpn, upd_same]
  refine ⟨putTs (upd H p (.lst (as.map V.ref))) as zs, kp, newS, new, eS, atP, ?_⟩
  refine I.call' (ch := []) rfl ⟨fun b o q _ _ _ => hk b o q, fun b o q _ _ _ => ⟨o.slots, hk b o q⟩, fun b o q n _ => ?_, fun b o q _ => ⟨o, hk b o q⟩, fun b xs q => kp b _ q, fun b o u q => kp b _ q, fun b ps q => ⟨#[], by rw [kp b _ q]; simp⟩⟩ (fun b u q => ?_) I.bare fun b z => by simp at z
  · obtain ⟨z1, z2⟩ := low b o q
    rw [off b z1 z2]
    exact n
  · by_cases hb : b ∈ as
    · obtain ⟨j, z, e1, e2, e3⟩ := pget atP hb
      rw [e3] at q
      cases q
      obtain ⟨lz, us, r, f3⟩ := hc j b z e1 e2
      exact ⟨lz, us, r, ⟨_, f3, rfl, _, rfl⟩⟩
    · by_cases hb2 : b = p
      · rw [hb2] at q ⊢
        rw [eS] at q
        cases q
        exact ⟨by rw [List.length_map]; exact hz, as.map Value.ref, c, vals_refs' as, hS⟩
      · rw [off b hb hb2] at q
        exact (I.hok b u q).stay (fun d v _ y => hk d v y) (fun d y => kp d _ y) fun d xs y => kp d _ y
/-- a list or a tuple, to be walked -/
theorem src_of {pins : List (Addr × Obj)} {σ : L2.St} {H : Hp} {s : Shared} {a : Addr} {xs : List V} (I : Inv X pins σ H s) (h : SqL X.K H a xs ∨ SqT X.K H a xs) :
    ∃ (o : Obj) (Hh : Heap → Prop) (its : List Value), Vals xs its ∧ xs.length ≤ sizeLine ∧ Begins (.ref a) o Hh ∧ Hh s.heap ∧ (a : Nat) < s.heap.objs.size ∧
      ∀ (A : Around), A.handled = none → ∀ it : Addr, a ≠ it → ∃ St : Nat → Heap → Prop, Draws X.prog X.w A it [it, a] its.length (fun i v => its[i]? = some v) St ∧ ∀ h', h'.get? it = some o → Hh h' → St 0 h' := by
  rcases h with h | h
  · obtain ⟨its, rv, p, hz⟩ := I.list h
    refine ⟨_, _, its, rv, hz, begins_list a its.toArray, p.isList, p.lt, fun A hh it hne => ⟨fun i h => h.IsListIter it a i ∧ h.IsList a its.toArray, ?_, fun h' e hl => ⟨⟨_, e, rfl, rfl⟩, hl⟩⟩⟩
    have D := Draws.list (prog := X.prog) (w := X.w) hh it a hne its.toArray
    simpa using D
  · obtain ⟨its, rv, p, hz⟩ := I.tuple h
    obtain ⟨o1, ho1, _⟩ := id p
    refine ⟨_, _, its, rv, hz, begins_tuple a its.toArray, (show s.heap.IsTuple a its.toArray from p), Heap.lt_size ho1, fun A hh it hne => ⟨fun i h => h.IsTupleIter it a i ∧ h.IsTuple a its.toArray, ?_, fun h' e hl => ⟨⟨_, e, rfl, rfl⟩, hl⟩⟩⟩
    have D := Draws.tuple (prog := X.prog) (w := X.w) hh it a hne its.toArray
    simpa using D

/-- list(zip(a, b)): lists or tuples of one length -/
def tListZip (K : PySem.W.Frag) (ta : TA) : TE := fun σ H Q => ta σ H fun vs H1 => ∃ (a b : Addr) (xs ys : List V), vs = [.ref a, .ref b] ∧ (SqL K H1 a xs ∨ SqT K H1 a xs) ∧ (SqL K H1 b ys ∨ SqT K H1 b ys) ∧ xs.length = ys.length ∧
  ∀ (H' : Hp) (p : Addr) (ts : List Addr), Same H1 H' → H1 p = none → (∀ t ∈ ts, H1 t = none) → H' p = some (.lst (ts.map V.ref)) → Paired (fun (t : Addr) (z : List V) => H' t = some (.tup z)) ts ((xs.zip ys).map fun q => [q.1, q.2]) → Q (.ref p) H'
theorem pe_listZip {a b : Expr} {ta : TA} {p p2 pos pos2 : Pos} (hc : X.calm = true) (hg : Gl X "list") (hm : X.mg "list" = none) (hg2 : Gl X "zip") (hm2 : X.mg "zip" = none) (ha : PA X [a, b] ta)
    (hs : starEach [a, b] X.env = (false, eval a X.env) :: starEach [b] X.env := by rfl) (hpl : (backTo pos2 (starEach [b] X.env)).any (·.1) = false := by rfl)
    (na : starEach [.Call (.Name "zip" p2) [a, b] [] pos2] X.env = (false, eval (.Call (.Name "zip" p2) [a, b] [] pos2) X.env) :: starEach [] X.env := by rfl) :
    PE X (.Call (.Name "list" p) [.Call (.Name "zip" p2) [a, b] [] pos2] [] pos) (tListZip X.K ta) := by
  refine ⟨fun pins s σ H Q I h => ?_⟩
  refine Call_ (ld_blt I hg hm boot_list (PyProof.Rows.callWith_type1 (args_cons ?_ na) na))
  refine Call_ (ld_blt I hg2 hm2 PyProof.Rows.boot_zip (PyProof.Rows.callWith_type1 (thn (ha.run pos2 pins s σ H _ I h) fun us s1 ⟨vs, H1, I1, r1, q1⟩ => ?_) hs hpl))
  obtain ⟨a1, b1, xs, ys, ex, hx, hy, hl, q⟩ := q1
  subst ex
  cases r1 with
  | cons r rr =>
    cases rr with
    | cons r' rr =>
      cases rr
      cases r
      cases r'
      obtain ⟨o1, H1h, its1, v1, z1, B1, hb1, lt1, dr1⟩ := src_of I1 hx
      obtain ⟨o2, H2h, its2, v2, z2, B2, hb2, lt2, dr2⟩ := src_of I1 hy
      refine zip_begins2 B1 B2 hb1 hb2 fun h' hz hTI hTO g1 g2 hsz hk => args_nil ?_
      have I2 : Inv X pins σ H1 { s1 with heap := h' } := I1.kept (t' := s1.toks) hk
      have hd := I1.ok.hd hc
      obtain ⟨St1, D1, st1⟩ := dr1 X.A.in1.in1.in1 hd s1.heap.objs.size (Nat.ne_of_lt lt1)
      obtain ⟨St2, D2, st2⟩ := dr2 X.A.in1.in1.in1 hd (s1.heap.objs.size + 1) (Nat.ne_of_lt (Nat.lt_succ_of_lt lt2))
      have e12 : its1.length = its2.length := by rw [← v1.length, ← v2.length, hl]
      rw [← e12] at D2
      have sep : ZipSep2 (s1.heap.objs.size + 4) (s1.heap.objs.size + 2) (s1.heap.objs.size + 3) s1.heap.objs.size (s1.heap.objs.size + 1) [s1.heap.objs.size, a1] [s1.heap.objs.size + 1, b1] :=
        zip_sep2 (fp1 := [a1]) (fp2 := [b1]) (fun b m => by rw [List.mem_singleton.mp m]; exact lt1) (fun b m => by rw [List.mem_singleton.mp m]; exact lt2)
      have zq : LzO.Zs X.prog X.w X.A.in1.in1.in1 (s1.heap.objs.size + 4) (s1.heap.objs.size + 2) (s1.heap.objs.size + 3) s1.heap.objs.size (s1.heap.objs.size + 1) [s1.heap.objs.size, a1] [s1.heap.objs.size + 1, b1] its1.length _ _ St1 St2 h' :=
        { sep := sep, d1 := D1, d2 := D2, le := by rw [← v1.length]; exact z1, hz := hz, hT := hTI, hO := hTO, s1 := st1 _ g1 (B1.keeps _ _ hb1 hk), s2 := st2 _ g2 (B2.keeps _ _ hb2 hk),
          l1 := fun b m => by
            rw [hsz]
            rcases List.mem_cons.mp m with rfl | m
            · exact Nat.lt_add_of_pos_right (by decide)
            · rw [List.mem_singleton.mp m]; exact Nat.lt_of_lt_of_le lt1 (Nat.le_add_right _ _)
          l2 := fun b m => by
            rw [hsz]
            rcases List.mem_cons.mp m with rfl | m
            · exact Nat.add_lt_add_left (by decide) _
            · rw [List.mem_singleton.mp m]; exact Nat.lt_of_lt_of_le lt2 (Nat.le_add_right _ _) }
      refine LzO.zl_call (s := { s1 with heap := h' }) hd zq fun h2 tk as c' hk2 hS hg => ?_
      have hp5 : (Shared.heap { s1 with heap := h' }).objs.size = s1.heap.objs.size + 5 := hsz
      have low : ∀ c o, s1.heap.get? c = some o → h2.get? c = some o := fun c o e => by
        have lc := Heap.lt_size e
        exact hk2 c o (Nat.ne_of_lt (Nat.lt_of_lt_of_le lc (Nat.le_add_right _ _))) (Nat.ne_of_lt (Nat.lt_of_lt_of_le lc (Nat.le_add_right _ _))) (Nat.ne_of_lt lc) (Nat.ne_of_lt (Nat.lt_succ_of_lt lc)) (hk c o e)
      have las : as.length = xs.length := by rw [hg.len, v1.length]
      have lz : ((xs.zip ys).map fun q => [q.1, q.2]).length = xs.length := by rw [List.length_map, List.length_zip, ← hl, Nat.min_self]
      obtain ⟨H', e1, e2, e3, e4, e5, I3⟩ := tups_laid (tk := tk) (zs := (xs.zip ys).map fun q => [q.1, q.2]) I1 (by rw [las]; exact z1) (by rw [las, lz]) (show s1.heap.objs.size ≤ (Shared.heap { s1 with heap := h' }).objs.size by rw [hp5]; exact Nat.le_add_right _ _) low hS
        (hg.asc.imp fun {a b} l => Nat.ne_of_lt l) (fun a m => Nat.le_trans (by rw [hp5]; exact Nat.le_trans (Nat.le_add_right _ _) (Nat.le_succ _)) (hg.rng a m)) (fun m => Nat.not_succ_le_self _ (hg.rng _ m)) fun j a z ja jz => by
          obtain ⟨x, y, px, py, t⟩ := hg.at_ j a ja
          rw [List.getElem?_map] at jz
          cases ez : (xs.zip ys)[j]? with
          | none => rw [ez] at jz; cases jz
          | some q =>
            rw [ez] at jz
            cases jz
            obtain ⟨q1, q2⟩ := List.getElem?_zip_eq_some.mp ez
            obtain ⟨u, hu, ru⟩ := v1.get q1
            obtain ⟨v, hv, rv⟩ := v2.get q2
            rw [px] at hu
            rw [py] at hv
            cases hu
            cases hv
            exact ⟨by show 2 ≤ sizeLine; decide, [x, y], .cons ru (.cons rv .nil), t⟩
      exact ⟨.ref _, H', I3, rfl, q H' _ as e1 e2 e3 e4 e5⟩
end
end L2

/-! range(a, b) of integers of any size, walked by a for -/
namespace L2
open PySem PySem.Spec PyProof.Rows
theorem turn_long {P : Program} {w : World} {K : PySem.W.Frag} {tg : Expr} (it : Addr) (lo : Int) (n : Nat) : Turn P w K tg (Itr lo n) [it] it (fun i h => IsLongIter h it (lo + (i : Nat) * 1) ((n : Int) - (i : Nat)) 1) where
  mem := by simp
  obj := fun i h st b hb => by
    have e : b = it := by simpa using hb
    subst e
    exact ⟨_, st, fun v z => by
      have z' : Data.fields _ = Data.cell v := z
      cases z'⟩
  keep := fun i h h' st k => k it (by simp) _ st
  item := by
    intro X hP hw hK hc i pins s σ H E I hf st hg
    subst hP hw hK
    obtain ⟨f0, f1, f2, f3, f4, f5⟩ := hf it (by simp)
    have W := Walks.longrange (prog := X.prog) (w := X.w) (I.ok.hd hc) it lo 1 n
    refine W.item i s _ _ hg st fun v h' tk hv st' kk => ?_
    obtain ⟨t, rfl⟩ := hv
    have I1 : Inv X pins σ H { s with heap := h', toks := tk } := I.turned (fun b o hb e => kk b o (by simpa using hb) e) f0 f1 f3 f4 f5
    refine ⟨_, rfl, go_of (s := { s with heap := h', toks := tk }) (n := "longrange_iterator") st' rfl rfl (by decide) ⟨.int (lo + i), H, I1, ⟨t, ?_⟩, ⟨rfl, rfl⟩, st', fun b hb => (hf b hb).1⟩⟩
    rw [Int.mul_one]
  done := by
    intro X hP hw hK hc i pins s σ H E I hf st hg
    subst hP hw hK
    obtain ⟨f0, f1, f2, f3, f4, f5⟩ := hf it (by simp)
    exact wpAny_pyNext_long_end (I.ok.hd hc) st (by have : n ≤ i := hg; omega) fun h' eb => ⟨rfl, I.turned (t' := s.toks) (fun b o hb e => eb b o hb e) f0 f1 f3 f4 f5⟩
  self := fun _ _ _ _ _ st h => wpAny_pyIter_longiter st h
section
variable {X : Cx} {tg : Expr}
theorem range_itW {pins : List (Addr × Obj)} {σ : St} {H : Hp} {s : Shared} {R : It → Hp → Prop} {E : Value → Shared → Prop} {lo hi : Int} {t u v : Tok} {tk : Nat} (I : Inv X pins σ H s)
    (q : R (Itr lo (hi - lo).toNat) H) : wpAny (model X.prog X.w) X.A (pyIter (.ref s.heap.objs.size)) (PIE X pins σ tg R) E { s with heap := s.heap.push { cls := .type "range", data := .fields #[.int lo t, .int hi u, .int 1 v] }, toks := tk } := by
  have I1 : Inv X pins σ H { s with heap := s.heap.push { cls := .type "range", data := .fields #[.int lo t, .int hi u, .int 1 v] }, toks := tk } := I.kept fun b o e => Heap.get?_push_of_some _ e
  have e1 : lo + ((0 : Nat) : Int) * 1 = lo := by simp
  have e2 : (((hi - lo).toNat : Nat) : Int) - ((0 : Nat) : Int) = Builtin.Range.rangeSize lo hi 1 := by rw [rangeSize_one]; split <;> omega
  have fp : ∀ (b : Addr), b ∈ [(s.heap.push { cls := .type "range", data := .fields #[.int lo t, .int hi u, .int 1 v] }).objs.size] → FpOk X pins H b := fun b hb => by
    have e : b = (s.heap.push { cls := .type "range", data := .fields #[.int lo t, .int hi u, .int 1 v] }).objs.size := by simpa using hb
    subst e
    exact I1.fpOk (Nat.le_refl _) (I1.hok.fresh (Nat.le_refl _))
  cases sm : Builtin.Range.small lo hi 1 with
  | true =>
    refine wpAny_pyIter_range (IsRange.new ..) sm ?_
    refine ⟨(s.heap.push { cls := .type "range", data := .fields #[.int lo t, .int hi u, .int 1 v] }).objs.size, [(s.heap.push { cls := .type "range", data := .fields #[.int lo t, .int hi u, .int 1 v] }).objs.size], _, _, H, rfl,
      I1.kept (t' := tk) fun b o e => Heap.get?_push_of_some _ e, turn_range _ lo (hi - lo).toNat, ?_, fp, q⟩
    show IsRangeIter _ _ (lo + ((0 : Nat) : Int) * 1) ((((hi - lo).toNat : Nat) : Int) - ((0 : Nat) : Int)) 1
    rw [e1, e2]
    exact Heap.get?_push_size _ rfl
  | false =>
    refine wpAny_pyIter_longrange (IsRange.new ..) sm ?_
    refine ⟨(s.heap.push { cls := .type "range", data := .fields #[.int lo t, .int hi u, .int 1 v] }).objs.size, [(s.heap.push { cls := .type "range", data := .fields #[.int lo t, .int hi u, .int 1 v] }).objs.size], _, _, H, rfl,
      I1.kept (t' := tk) fun b o e => Heap.get?_push_of_some _ e, turn_long _ lo (hi - lo).toNat, ?_, fp, q⟩
    show IsLongIter _ _ (lo + ((0 : Nat) : Int) * 1) ((((hi - lo).toNat : Nat) : Int) - ((0 : Nat) : Int)) 1
    rw [e1, e2]
    exact Heap.get?_push_size _ rfl
def iRng2W (ta : TA) : TI := fun σ H R => ta σ H fun vs H1 => ∃ i j : Int, vs = [.int i, .int j] ∧ R (Itr i (j - i).toNat) H1
theorem pi_range2W {a b : Expr} {ta : TA} {p pos : Pos} (hg : Gl X "range") (hm : X.mg "range" = none) (ha : PA X [a, b] ta) (hs : starEach [a, b] X.env = [(false, eval a X.env), (false, eval b X.env)] := by rfl) (hs2 : starEach [b] X.env = [(false, eval b X.env)] := by rfl) :
    PI X tg (.Call (.Name "range" p) [a, b] [] pos) (iRng2W ta) := by
  refine ⟨fun pins s σ H R I h => ?_⟩
  refine Call_ (ld_blt I hg hm boot_range (PyProof.Rows.callWith_type1 (thn (ha.run pos pins s σ H _ I h) fun us s1 ⟨vs, H1, I1, r1, q1⟩ => ?_) (by rw [hs, hs2]) (by rw [hs2]; rfl)))
  obtain ⟨i, j, e, q⟩ := q1
  subst e
  cases r1 with
  | cons r rr =>
    cases rr with
    | cons r' rr =>
      cases rr
      obtain ⟨t, rfl⟩ := r
      obtain ⟨t', rfl⟩ := r'
      exact call_range_2 (range_itW I1 q)
end
end L2

set_option Elab.async false
set_option linter.all false
set_option pp.deepTerms false
set_option pp.maxSteps 3000
set_option maxRecDepth 100000
set_option maxHeartbeats 4000000
set_option exponentiation.threshold 3000
namespace Gr
open PySem PySem.Spec PyProof.Rows L2
open Pm (Rn)
theorem smallL {n : Nat} (h : n ≤ 100000) : n < sizeLine := Nat.lt_of_le_of_lt h (by decide)
def i3 (r : Rn) : List V := [.int r.1, .int r.2.1, .int r.2.2]
def RnAt (H : Hp) (x : V) (r : Rn) : Prop := ∃ b, x = .ref b ∧ H b = some (.tup (i3 r))
def RnsT (H : Hp) (a : Addr) (rs : List Rn) : Prop := ∃ xs, H a = some (.tup xs) ∧ Paired (RnAt H) xs rs
def RnsL (H : Hp) (a : Addr) (rs : List Rn) : Prop := ∃ xs, H a = some (.lst xs) ∧ Paired (RnAt H) xs rs
theorem RnAt.mono {H H' : Hp} {x : V} {r : Rn} (s : Same H H') (h : RnAt H x r) : RnAt H' x r := by
  obtain ⟨b, e, h⟩ := h; exact ⟨b, e, s _ _ h⟩
theorem rns_mono {H H' : Hp} (s : Same H H') {xs : List V} {rs : List Rn} (h : Paired (RnAt H) xs rs) : Paired (RnAt H') xs rs := L2.Paired.mapP h fun _ _ r => r.mono s
theorem RnsT.mono {H H' : Hp} {a : Addr} {rs : List Rn} (s : Same H H') (h : RnsT H a rs) : RnsT H' a rs := by
  obtain ⟨xs, h1, h2⟩ := h; exact ⟨xs, s _ _ h1, rns_mono s h2⟩
/-- two runs as a pair -/
def PrAt (H : Hp) (x : V) (q : Rn × Rn) : Prop := ∃ t u v, x = .ref t ∧ H t = some (.tup [u, v]) ∧ RnAt H u q.1 ∧ RnAt H v q.2
theorem PrAt.mono {H H' : Hp} {x : V} {q : Rn × Rn} (s : Same H H') (h : PrAt H x q) : PrAt H' x q := by
  obtain ⟨t, u, v, e, h, a, b⟩ := h; exact ⟨t, u, v, e, s _ _ h, a.mono s, b.mono s⟩
/-- each run with the one ahead of it -/
def prs (c : Int) (rs : List Rn) : List (Rn × Rn) := (Pm.mv (-c) (rs.getLastD (0, 0, 0)) :: rs.dropLast).zip rs
structure DefM (K : PySem.W.Frag) (x qual : Str) (st : Stmt) (ps : List Str) (f : Addr) (fd : FuncData) : Prop where
  F : Fun K x qual st f fd
  b : Binds K fd ps []
theorem decV (i j : Int) : decide (V.int i = V.int j) = decide (i = j) := decide_eq_decide.mpr ⟨fun e => V.int.inj e, fun e => congrArg V.int e⟩
def spLastArr : Sp := fun vs H Q _ => ∃ (x : V) (r : Rn), vs = [x] ∧ RnAt H x r ∧ Q (.int (Pm.la r)) H
def spGoes : Sp := fun vs H Q _ => ∃ (x y : V) (b r : Rn), vs = [x, y] ∧ RnAt H x b ∧ RnAt H y r ∧ Q (.bl (decide (Pm.GoesOn b r))) H
def spJoins : Sp := fun vs H Q _ => ∃ (x y : V) (b r : Rn), vs = [x, y] ∧ RnAt H x b ∧ RnAt H y r ∧ Q (.bl (decide (Pm.Joins b r))) H
def spMoved : Sp := fun vs H Q _ => ∃ (a : Addr) (t : Int) (ns : List Int), vs = [.ref a, .int t] ∧ H a = some (.tup (ns.map V.int)) ∧ ns.length ≤ 100 ∧ ∀ b H', Same H H' → H b = none → H' b = some (.tup ((ns.map fun n => n + t).map V.int)) → Q (.ref b) H'
def spIsRun : Sp := fun vs H Q _ => ∃ (x : V) (r : Rn), vs = [x] ∧ RnAt H x r ∧ r.1 ≤ r.2.1 ∧ ∀ H', Same H H' → Q (.bl true) H'
def spPairs : Sp := fun vs H Q _ => ∃ (c : Int) (a : Addr) (rs : List Rn), vs = [.int c, .ref a] ∧ RnsT H a rs ∧ rs ≠ [] ∧ rs.length ≤ 50000 ∧ ∀ p ps H', Same H H' → H' p = some (.lst ps) → Paired (PrAt H') ps (prs c rs) → Q (.ref p) H'
def spAre : Sp := fun vs H Q _ => ∃ (c : Int) (a : Addr) (rs : List Rn), vs = [.int c, .ref a] ∧ RnsT H a rs ∧ Pm.Ok c rs ∧ rs.length ≤ 50000 ∧ ∀ H', Same H H' → Q (.bl true) H'
section
variable {P : Program} {w : World} {K : PySem.W.Frag} {mg : Str → Option Value} {base : Heap} {tC : Tok}
theorem ok_last_arr {f : Addr} {fd : FuncData} (B : Blt mg tC) (Dlast_arrival : Def K mg "last_arrival" s_last_arrival ["run"] f fd) : FnOk P w K mg base CX0 1 f fd ["run"] spLastArr := by
  refine Dlast_arrival.F.ok sclast_arrival (fun vs H Q E h => ?_) (fun cdv A outer s H vs Q E hr h => ⟨_, (pss_cons (ps_asg (pv 0) (pg_tup rfl (pgs_cons (pg_name (i := 1) sclast_arrival.nd rfl (Or.inl rfl)) (pgs_cons (pg_name (i := 2) sclast_arrival.nd rfl (Or.inl rfl)) (pgs_cons (pg_name (i := 3) sclast_arrival.nd rfl (Or.inl rfl)) pgs_nil)))))
  (pss_one (ps_ret (pe_op op_sub (pe_op op_add (pv 3) (pv 2)) (pv 1))))), ?_⟩)
  · obtain ⟨x, r, rfl, _⟩ := h; rfl
  · obtain ⟨x, r, rfl, ⟨b, rfl, hb⟩, q⟩ := h
    refine ⟨_, rfl, b, _, rfl, SqT.of hb, rfl, _, _, rfl, _, _, rfl, _, _, rfl, rfl, ?_⟩
    exact ⟨_, rfl, _, rfl, _, _, rfl, rfl, _, rfl, _, _, rfl, rfl, q⟩
theorem ok_goes {f f1 : Addr} {fd fd1 : FuncData} (B : Blt mg tC) (Dgoes_on : Def K mg "goes_on" s_goes_on ["before", "run"] f fd) (Dlast_arrival : Def K mg "last_arrival" s_last_arrival ["run"] f1 fd1) : FnOk P w K mg base CX0 2 f fd ["before", "run"] spGoes := by
  have Glast_arrival := ok_last_arr (P := P) (w := w) (base := base) B Dlast_arrival
  refine Dgoes_on.F.ok scgoes_on (fun vs H Q E h => ?_) (fun cdv A outer s H vs Q E hr h => ⟨_, (pss_one (ps_ret (pe_and (pe_cmpR op_lt (pe_ix ix_tup (pv 0) pe_int (fun _ _ => rfl)) (pe_ix ix_tup (pv 1) pe_int (fun _ _ => rfl)) (nomark _)) (pe_one (pe_cmpR op_lt (pe_call Glast_arrival (hr.mono (by decide)) (by rfl) Dlast_arrival.g Dlast_arrival.F.kp Dlast_arrival.b .nil pass0 (pa_cons (pv 0) pa_nil)) (pe_ix ix_tup (pv 1) pe_int (fun _ _ => rfl)) (nomark _)))))), ?_⟩)
  · obtain ⟨x, y, b, r, rfl, _⟩ := h; rfl
  · obtain ⟨x, y, b, r, rfl, ⟨a1, rfl, h1⟩, ⟨a2, rfl, h2⟩, q⟩ := h
    have e : decide (Pm.GoesOn b r) = (decide (b.2.1 < r.1) && decide (Pm.la b < r.2.2)) := by unfold Pm.GoesOn; exact Bool.decide_and ..
    rw [e] at q
    refine ⟨_, rfl, a1, _, _, _, rfl, rfl, SqT.of h1, atI_nat (j := 1) rfl, _, rfl, a2, _, _, _, rfl, rfl, SqT.of h2, atI_nat (j := 0) rfl, _, _, rfl, rfl, ?_⟩
    refine ⟨_, rfl, ?_⟩
    by_cases z : b.2.1 < r.1
    · refine iteY z ?_
      rw [decide_eq_true z, Bool.true_and] at q
      exact ⟨_, rfl, _, b, rfl, ⟨a1, rfl, h1⟩, _, rfl, a2, _, _, _, rfl, rfl, SqT.of h2, atI_nat (j := 2) rfl, _, _, rfl, rfl, q⟩
    · refine iteN z ?_
      rw [decide_eq_false z, Bool.false_and] at q
      exact q
theorem ok_joins {f f1 : Addr} {fd fd1 : FuncData} (B : Blt mg tC) (Djoins : Def K mg "joins" s_joins ["before", "run"] f fd) (Dlast_arrival : Def K mg "last_arrival" s_last_arrival ["run"] f1 fd1) : FnOk P w K mg base CX0 2 f fd ["before", "run"] spJoins := by
  have Glast_arrival := ok_last_arr (P := P) (w := w) (base := base) B Dlast_arrival
  refine Djoins.F.ok scjoins (fun vs H Q E h => ?_) (fun cdv A outer s H vs Q E hr h => ⟨_, (pss_one (ps_ret (pe_and (pe_cmpR op_eq (pe_op op_add (pe_ix ix_tup (pv 0) pe_int (fun _ _ => rfl)) pe_int) (pe_ix ix_tup (pv 1) pe_int (fun _ _ => rfl)) (nomark _)) (pe_one (pe_cmpR op_eq (pe_op op_add (pe_call Glast_arrival (hr.mono (by decide)) (by rfl) Dlast_arrival.g Dlast_arrival.F.kp Dlast_arrival.b .nil pass0 (pa_cons (pv 0) pa_nil)) pe_int) (pe_ix ix_tup (pv 1) pe_int (fun _ _ => rfl)) (nomark _)))))), ?_⟩)
  · obtain ⟨x, y, b, r, rfl, _⟩ := h; rfl
  · obtain ⟨x, y, b, r, rfl, ⟨a1, rfl, h1⟩, ⟨a2, rfl, h2⟩, q⟩ := h
    have e : decide (Pm.Joins b r) = (decide (b.2.1 + 1 = r.1) && decide (Pm.la b + 1 = r.2.2)) := by unfold Pm.Joins; exact Bool.decide_and ..
    rw [e] at q
    refine ⟨_, rfl, a1, _, _, _, rfl, rfl, SqT.of h1, atI_nat (j := 1) rfl, _, _, rfl, rfl, _, rfl, a2, _, _, _, rfl, rfl, SqT.of h2, atI_nat (j := 0) rfl, rfl, _, rfl, ?_⟩
    by_cases z : b.2.1 + 1 = r.1
    · refine iteY (congrArg V.int z) ?_
      rw [decide_eq_true z, Bool.true_and] at q
      refine ⟨_, rfl, _, b, rfl, ⟨a1, rfl, h1⟩, _, _, rfl, rfl, _, rfl, a2, _, _, _, rfl, rfl, SqT.of h2, atI_nat (j := 2) rfl, rfl, ?_⟩
      rw [decV]
      exact q
    · refine iteN (fun e => z (V.int.inj e)) ?_
      rw [decide_eq_false z, Bool.false_and] at q
      exact q
theorem ok_moved {f : Addr} {fd : FuncData} (B : Blt mg tC) (Dmoved : Def K mg "moved" s_moved ["run", "ticks"] f fd) : FnOk P w K mg base CX0 1 f fd ["run", "ticks"] spMoved := by
  refine Dmoved.F.ok scmoved (fun vs H Q E h => ?_) (fun cdv A outer s H vs Q E hr h => ⟨_, (pss_one (ps_ret (pe_callTy call_tuple_of (by rfl) B.n_tuple (by decide +kernel) (pa_cons (pe_lc (own := [("moment", 2)]) (g := (gName 2)) (tt := tYes) rfl scmoved.nd (pi_tup (pv 0)) (blkOk_by (N := ["run", "ticks", "moment"]) (sc := defScope s_moved) (by decide +kernel)) (fun _ _ _ _ _ => (pg_name (i := 2) scmoved.nd rfl (Or.inl rfl))) (fun _ _ _ _ _ => pts_nil) (fun _ _ _ _ _ => (pe_op op_add (pv 2) (pv 1)))) pa_nil)))), ?_⟩)
  · obtain ⟨a, t, ns, rfl, _⟩ := h; rfl
  · obtain ⟨a, t, ns, rfl, ha, hl, q⟩ := h
    refine ⟨_, rfl, a, rfl, ⟨_, SqT.of ha⟩, fun D hD => ?_⟩
    refine lc_tup (xs := ns.map V.int) (fun i H' => Same H H' ∧ H' D = some (.lst (((ns.take i).map fun n => n + t).map V.int))) ⟨Same.new hD, upd_same⟩ (fun i H' _ ⟨s1, _⟩ => SqT.of (s1 _ _ ha)) ?_ ?_
    · rintro i x H' hx ⟨s1, e1⟩
      rw [List.getElem?_map] at hx
      cases hn : ns[i]? with
      | none => rw [hn] at hx; cases hx
      | some n =>
        rw [hn] at hx
        cases hx
        refine ⟨rfl, _, rfl, _, rfl, _, _, rfl, rfl, _, e1, ?_, fun b' o h => ?_, ?_⟩
        · rw [List.length_map, List.length_map, List.length_take]; exact smallL (by omega)
        · rw [upd_ne (ne_of_none h hD)]; exact s1 _ _ h
        · rw [upd_same, List.take_add_one, hn, List.map_append, List.map_append]; rfl
    · rintro H' ⟨s1, e1⟩
      rw [List.length_map, List.take_of_length_le (Nat.le_refl _)] at e1
      exact ⟨D, _, rfl, .inl ⟨SqL.of e1, fun l hl => q l _ (s1.trans (Same.new hl)) (by
        cases hh : H l with
        | none => rfl
        | some o => rw [s1 _ _ hh] at hl; cases hl) upd_same⟩⟩
theorem ok_is_run {f f1 : Addr} {fd fd1 : FuncData} (B : Blt mg tC) (Dis_run : Def K mg "is_run" s_is_run ["value"] f fd) (Dis_whole : Def K mg "is_whole" s_is_whole ["value"] f1 fd1) : FnOk P w K mg base CX0 2 f fd ["value"] spIsRun := by
  have Gis_whole := ok_is_whole (P := P) (w := w) (base := base) B Dis_whole
  refine Dis_run.F.ok scis_run (fun vs H Q E h => ?_) (fun cdv A outer s H vs Q E hr h => ⟨_, (pss_cons (ps_if (PW.pt (pw_or (pt_not (pt_val (pe_callB call_isi (by rfl) B.n_isinstance (by decide +kernel) (pa_cons (pv 0) (pa_cons (pe_bltn (v := .ty "tuple") (u := .type "tuple") (by rfl) B.n_tuple (by decide +kernel) rfl) pa_nil))))) (pw_or1 (pt_cmpR op_ne (pe_callB call_len_seq (by rfl) B.len PySem.boot_len (pa_cons (pv 0) pa_nil)) pe_int (nomark _)))))
   (pss_one (ps_ret pe_bl))
   pss_nil)
  (pss_one (ps_ret (pe_and (pe_callB (cr_all rfl) (by rfl) B.n_all (by decide +kernel) (pa_cons (pe_lc (own := [("part", 1)]) (g := (gName 1)) (tt := tYes) rfl scis_run.nd (pi_tup (pv 0)) (blkOk_by (N := ["value", "part"]) (sc := defScope s_is_run) (by decide +kernel)) (fun _ _ _ _ _ => (pg_name (i := 1) scis_run.nd rfl (Or.inl rfl))) (fun _ _ _ _ _ => pts_nil) (fun _ _ _ _ _ => (pe_call Gis_whole (hr.mono (by decide)) (by rfl) Dis_whole.g Dis_whole.F.kp Dis_whole.b .nil pass0 (pa_cons (pv 1) pa_nil)))) pa_nil)) (pe_one (pe_cmpR op_le (pe_ix ix_tup (pv 0) pe_int (fun _ _ => rfl)) (pe_ix ix_tup (pv 0) pe_int (fun _ _ => rfl)) (nomark _))))))), ?_⟩)
  · obtain ⟨x, r, rfl, _⟩ := h; rfl
  · obtain ⟨x, r, rfl, ⟨a, rfl, ha⟩, hle, q⟩ := h
    refine ⟨_, rfl, .ref a, .ty "tuple", .type "tuple", .type "tuple", true, rfl, .ty _, .base (.tup ha), kit_ty (by decide +kernel), _, rfl, ?_⟩
    refine ⟨_, rfl, a, _, rfl, .inr (SqT.of ha), rfl, _, rfl, ?_⟩
    refine iteNS rfl ?_
    refine ⟨_, rfl, a, rfl, ⟨_, SqT.of ha⟩, fun D hD => ?_⟩
    refine lc_tup (xs := i3 r) (fun i H' => Same H H' ∧ H' D = some (.lst ((List.replicate i true).map V.bl))) ⟨Same.new hD, upd_same⟩ (fun i H' _ ⟨s1, _⟩ => SqT.of (s1 _ _ ha)) ?_ ?_
    · rintro i x H' hx ⟨s1, e1⟩
      have hi := (List.getElem?_eq_some_iff.mp hx).1
      have h3 : (i3 r).length = 3 := rfl
      obtain ⟨n, rfl⟩ : ∃ n, x = .int n := by
        have := List.mem_of_getElem? hx
        simp only [i3, List.mem_cons, List.not_mem_nil, or_false] at this
        rcases this with e | e | e <;> exact ⟨_, e⟩
      refine ⟨rfl, _, rfl, n, rfl, _, e1, ?_, fun b' o h => ?_, ?_⟩
      · rw [List.length_map, List.length_replicate]; exact smallL (by omega)
      · rw [upd_ne (ne_of_none h hD)]; exact s1 _ _ h
      · rw [upd_same, List.replicate_succ', List.map_append]; rfl
    · rintro H' ⟨s1, e1⟩
      refine ⟨D, _, rfl, SqL.of e1, _, rfl, ?_⟩
      rw [show ((List.replicate (i3 r).length true).all id) = true by rfl]
      refine iteT ?_
      have ha' := s1 _ _ ha
      refine ⟨_, rfl, a, _, _, _, rfl, rfl, SqT.of ha', atI_nat (j := 0) rfl, _, rfl, a, _, _, _, rfl, rfl, SqT.of ha', atI_nat (j := 1) rfl, _, _, rfl, rfl, ?_⟩
      show Q (.bl (decide (r.1 ≤ r.2.1))) H'
      rw [decide_eq_true hle]
      exact q _ s1
theorem getLastD_snoc (pre : List Rn) (l d : Rn) : (pre ++ [l]).getLastD d = l := by simp
theorem dropLast_snoc {α : Type} (pre : List α) (l : α) : (pre ++ [l]).dropLast = pre := by simp
theorem i3_mv (t : Int) (r : Rn) : [r.1, r.2.1, r.2.2].map (fun n => n + t) = [(Pm.mv t r).1, (Pm.mv t r).2.1, (Pm.mv t r).2.2] := rfl
theorem cut_but' (ks : List V) (x : V) : cutV (ks ++ [x]) none (some (-1)) = ks ∧ ¬ (HT.sIx (ks ++ [x]).length 0 none = 0 ∧ HT.sIx (ks ++ [x]).length (ks ++ [x]).length (some (-1)) = (ks ++ [x]).length) := by
  have e1 : HT.sIx (ks ++ [x]).length (ks ++ [x]).length (some (-1)) = ks.length := by
    show (if (-1 : Int) < 0 then ((-1 : Int) + ((ks ++ [x]).length : Int)).toNat else min (-1 : Int).toNat (ks ++ [x]).length) = ks.length
    rw [if_pos (by decide), List.length_append]
    simp
    omega
  constructor
  · unfold cutV
    rw [e1, HT.sIx_none]
    simp
  · rw [e1, List.length_append]
    simp
theorem prAt_of {H : Hp} : ∀ {ts : List Addr} {us vs : List V} {bs rs : List Rn}, Paired (RnAt H) us bs → Paired (RnAt H) vs rs → Paired (fun (t : Addr) (z : List V) => H t = some (.tup z)) ts ((us.zip vs).map fun q => [q.1, q.2]) → Paired (PrAt H) (ts.map V.ref) (bs.zip rs)
  | [], _, _, _, _, .nil, _, _ => .nil
  | [], _, _, _, _, .cons _ _, .nil, _ => .nil
  | [], _, _, _, _, .cons _ _, .cons _ _, h => by cases h
  | t :: ts, _, _, _, _, .nil, _, h => by cases h
  | t :: ts, _, _, _, _, .cons _ _, .nil, h => by cases h
  | t :: ts, _, _, _, _, .cons r1 t1, .cons r2 t2, h => by
    cases h with
    | cons e h => exact .cons ⟨t, _, _, rfl, e, r1, r2⟩ (prAt_of t1 t2 h)
theorem ok_pairs {f f1 : Addr} {fd fd1 : FuncData} (B : Blt mg tC) (Drun_pairs : Def K mg "run_pairs" s_run_pairs ["cycle", "runs"] f fd) (Dmoved : Def K mg "moved" s_moved ["run", "ticks"] f1 fd1) : FnOk P w K mg base CX0 2 f fd ["cycle", "runs"] spPairs := by
  have Gmoved := ok_moved (P := P) (w := w) (base := base) B Dmoved
  refine Drun_pairs.F.ok scrun_pairs (fun vs H Q E h => ?_) (fun cdv A outer s H vs Q E hr h => ⟨_, (pss_cons (ps_set (i := 2) scrun_pairs.nd rfl (Or.inl rfl) (pe_lst (pa_cons (pe_call Gmoved (hr.mono (by decide)) (by rfl) Dmoved.g Dmoved.F.kp Dmoved.b .nil pass0 (pa_cons (pe_ix ix_tup (pv 1) (pe_un un_neg pe_int) (fun _ _ => rfl)) (pa_cons (pe_un un_neg (pv 0)) pa_nil))) (StX.pa_star (pe_slice sl_tupA (pv 1) po_none (po_some (pe_un un_neg pe_int))) pa_nil))))
  (pss_one (ps_ret (pe_listZip rfl (by rfl) B.n_list (by rfl) B.n_zip (pa_cons (pv 2) (pa_cons (pv 1) pa_nil)))))), ?_⟩)
  · obtain ⟨c, a, rs, rfl, _⟩ := h; rfl
  · obtain ⟨c, a, rs, rfl, ⟨xs, ha, hP⟩, ne, hl, q⟩ := h
    obtain ⟨pre, l, rfl⟩ : ∃ pre l, rs = pre ++ [l] := by
      rcases List.eq_nil_or_concat rs with e | ⟨pre, l, e⟩
      · exact absurd e ne
      · exact ⟨pre, l, by rw [e, List.concat_eq_append]⟩
    obtain ⟨xp, xl, rfl, hPp, b, rfl, hb⟩ := paired_split hP
    refine ⟨_, rfl, _, rfl, a, _, _, _, rfl, rfl, SqT.of ha, atI_last _ _, _, rfl, _, rfl, b, -c, [l.1, l.2.1, l.2.2], rfl, hb, Nat.le_of_ble_eq_true rfl, fun e H1 s1 hn he => ?_⟩
    have lp := paired_len hPp
    rw [List.length_append] at hl
    have l1 : [l].length = 1 := rfl
    have ha1 := s1 _ _ ha
    refine ⟨_, rfl, _, rfl, _, rfl, a, _, rfl, SqT.of ha1, fun hw => absurd hw (cut_but' xp (.ref b)).2, fun _ S hS => ?_⟩
    rw [(cut_but' xp (.ref b)).1]
    refine ⟨S, xp, rfl, .inl (SqT.of upd_same), ?_⟩
    refine ⟨?_, fun L hL => ?_⟩
    · rw [List.length_cons, List.length_append]
      have := smallL (n := xp.length + 1) (by omega)
      simp only [List.length_nil]; omega
    have sL := (s1.trans (Same.new hS (o := .tup xp))).trans (Same.new hL (o := .lst (.ref e :: (xp ++ []))))
    rw [List.append_nil] at sL
    rw [List.append_nil] at ⊢
    refine ⟨_, rfl, _, rfl, L, a, .ref e :: xp, xp ++ [.ref b], rfl, .inl (SqL.of upd_same), .inr (SqT.of (sL _ _ ha)), ?_, fun H' p ts sm hp hts hp' hpd => ?_⟩
    · rw [List.length_cons, List.length_append]; rfl
    have sA := sL.trans sm
    refine q p _ H' sA hp' ?_
    have p1 : Paired (RnAt H') (.ref e :: xp) (Pm.mv (-c) l :: pre) := .cons ⟨e, rfl, sm _ _ (Same.new hL _ _ (Same.new hS _ _ he))⟩ (rns_mono sA hPp)
    have := prAt_of p1 (rns_mono sA hP) hpd
    unfold prs
    rw [getLastD_snoc, dropLast_snoc]
    exact this
end
end Gr

set_option Elab.async false
set_option linter.all false
set_option pp.deepTerms false
set_option pp.maxSteps 3000
set_option maxRecDepth 100000
set_option maxHeartbeats 4000000
set_option exponentiation.threshold 3000
namespace Gr
open PySem PySem.Spec PyProof.Rows L2
open Pm (Rn)
/-! ### numbers that aren't too great -/
def Fit (x : Int) : Prop := -(10 ^ 300) ≤ x ∧ x ≤ 10 ^ 300
theorem e300 : (10 : Int) ^ 300 < ((2 ^ 1000 : Nat) : Int) := by decide +kernel
theorem Fit.bits {x : Int} (h : Fit x) : x.natAbs < 2 ^ 1000 := by have := e300; unfold Fit at h; omega
theorem fit_div {x c : Int} (hc : 1 ≤ c) : (x / c).natAbs ≤ x.natAbs := by
  have e := Int.emod_add_mul_ediv x c
  have r0 := Int.emod_nonneg x (show c ≠ 0 by omega)
  have r1 := Int.emod_lt_of_pos x (show 0 < c by omega)
  rcases Int.lt_or_le (x / c) 0 with z | z
  · have h : c * (x / c) ≤ c * -1 := Int.mul_le_mul_of_nonneg_left (by omega) (by omega)
    have h2 : (c - 1) * (x / c) ≤ 0 := Int.mul_nonpos_of_nonneg_of_nonpos (by omega) (by omega)
    rw [Int.sub_mul] at h2
    have h3 : -1 * (x / c) ≥ 1 := by omega
    -- x = r + c q, q < 0: |q| ≤ |x|
    by_cases k : x < 0
    · have : x - x % c = c * (x / c) := by omega
      have : (c - 1) * (x / c) + x / c = c * (x / c) := by rw [Int.sub_mul]; omega
      have h4 : (c - 1) * (x / c) ≤ (c - 1) * -1 := Int.mul_le_mul_of_nonneg_left (by omega) (by omega)
      omega
    · have := Int.ediv_nonneg (show 0 ≤ x by omega) (show 0 ≤ c by omega)
      omega
  · have h : 1 * (x / c) ≤ c * (x / c) := Int.mul_le_mul_of_nonneg_right hc z
    omega
theorem fit30 {c : Int} (hc : 1 ≤ c) (h : c ≤ 10 ^ 30) : Fit c := by
  have : (10 : Int) ^ 30 ≤ 10 ^ 300 := by decide +kernel
  have : (0 : Int) ≤ 10 ^ 300 := by decide +kernel
  unfold Fit; omega
theorem divF {x c : Int} (hc : 1 ≤ c) (h : c ≤ 10 ^ 30) : CDivW x c := wide_div (b := 1000) (by omega) (fit30 hc h).bits (by decide) (by decide)
theorem mulF {x c : Int} (hx : Fit x) (hc : 1 ≤ c) (h : c ≤ 10 ^ 30) : CMulW (x / c) c :=
  wide_mul (a := 1000) (b := 1000) (Nat.lt_of_le_of_lt (fit_div hc) hx.bits) (fit30 hc h).bits (by decide) (by decide) (by decide)
theorem prs_goes {c : Int} {rs : List Rn} (ok : Pm.Ok c rs) : ∀ q ∈ prs c rs, Pm.GoesOn q.1 q.2 := by
  rintro ⟨b, r⟩ hq
  obtain ⟨pre, l, rfl⟩ : ∃ pre l, rs = pre ++ [l] := by
    rcases List.eq_nil_or_concat rs with e | ⟨pre, l, e⟩
    · exact absurd e ok.ne
    · exact ⟨pre, l, by rw [e, List.concat_eq_append]⟩
  unfold prs at hq
  rw [getLastD_snoc, dropLast_snoc] at hq
  obtain ⟨j, hj⟩ := List.mem_iff_getElem?.mp hq
  obtain ⟨h1, h2⟩ := List.getElem?_zip_eq_some.mp hj
  cases j with
  | zero =>
    cases h1
    exact ok.cy l (by simp) r (List.mem_of_getElem? h2)
  | succ j =>
    simp only [List.getElem?_cons_succ] at h1
    have hlt := (List.getElem?_eq_some_iff.mp h1).1
    have h1' : (pre ++ [l])[j]? = some b := by rw [List.getElem?_append_left hlt]; exact h1
    exact List.pairwise_iff_getElem.mp ok.pw j (j + 1) (List.getElem?_eq_some_iff.mp h1').1 (List.getElem?_eq_some_iff.mp h2).1 (Nat.lt_succ_self j) |> fun g => by
      rw [(List.getElem?_eq_some_iff.mp h1').2, (List.getElem?_eq_some_iff.mp h2).2] at g
      exact g
def RowAt (H : Hp) (x : V) (ns : List Int) : Prop := ∃ b, x = .ref b ∧ H b = some (.tup (ns.map V.int))
theorem RowAt.mono {H H' : Hp} {x : V} {ns : List Int} (s : Same H H') (h : RowAt H x ns) : RowAt H' x ns := by
  obtain ⟨b, e, h⟩ := h; exact ⟨b, e, s _ _ h⟩
def homeL (c : Int) (ns : List Int) : List Int := ns.map fun n => n + -(ns.headD 0 / c * c)
def spAsc : Sp := fun vs H Q _ => ∃ (c : Int) (a : Addr) (xs : List V) (nss : List (List Int)) (d : Nat), vs = [.int c, .ref a] ∧ H a = some (.lst xs) ∧ Paired (RowAt H) xs nss ∧ 1 ≤ c ∧ c ≤ 10 ^ 30 ∧ 1 ≤ d ∧ d ≤ 100 ∧ nss.length ≤ 50000 ∧ (∀ ns ∈ nss, ns.length = d ∧ Fit (ns.headD 0)) ∧
  ∀ p ys zs H', Same H H' → H p = none → H' p = some (.lst ys) → Paired (RowAt H') ys zs → zs.Perm (nss.map (homeL c)) → zs.Pairwise (fun a b => TsO.lexL b a = false) → Q (.ref p) H'
/-- the numbers of a row, read off the heap -/
def kRow (H : Hp) (x : V) : List Int := match x with
  | .ref b => match H b with
    | some (.tup vs) => vs.filterMap fun v => match v with | .int i => some i | _ => none
    | _ => []
  | _ => []
theorem kRow_at {H : Hp} {x : V} {ns : List Int} (h : RowAt H x ns) : kRow H x = ns := by
  obtain ⟨b, rfl, h⟩ := h
  unfold kRow
  simp only [h]
  induction ns with
  | nil => rfl
  | cons n ns ih =>
    have : ∀ ms : List Int, (ms.map V.int).filterMap (fun v => match v with | .int i => some i | _ => none) = ms := fun ms => by
      induction ms with
      | nil => rfl
      | cons m ms ih => simp [ih]
    exact this _
theorem kRow_map {H : Hp} : ∀ {xs : List V} {nss : List (List Int)}, Paired (RowAt H) xs nss → xs.map (kRow H) = nss
  | _, _, .nil => rfl
  | _, _, .cons r t => by rw [List.map_cons, kRow_at r, kRow_map t]
theorem row_mem {H : Hp} : ∀ {xs : List V} {nss : List (List Int)}, Paired (RowAt H) xs nss → ∀ x ∈ xs, RowAt H x (kRow H x)
  | _, _, .cons r t, x, m => by
    rcases List.mem_cons.mp m with rfl | m
    · rw [kRow_at r]; exact r
    · exact row_mem t x m
theorem row_of {H : Hp} : ∀ {xs : List V}, (∀ x ∈ xs, RowAt H x (kRow H x)) → Paired (RowAt H) xs (xs.map (kRow H))
  | [], _ => .nil
  | x :: xs, h => .cons (h x (by simp)) (row_of fun y m => h y (List.mem_cons_of_mem _ m))
section
variable {P : Program} {w : World} {K : PySem.W.Frag} {mg : Str → Option Value} {base : Heap} {tC : Tok}
theorem ok_are {f f1 f2 f3 f4 f5 f6 : Addr} {fd fd1 fd2 fd3 fd4 fd5 fd6 : FuncData} (B : Blt mg tC) (Dare_runs : Def K mg "are_runs" s_are_runs ["cycle", "value"] f fd) (Dis_run : Def K mg "is_run" s_is_run ["value"] f1 fd1) (Dis_whole : Def K mg "is_whole" s_is_whole ["value"] f2 fd2) (Dgoes_on : Def K mg "goes_on" s_goes_on ["before", "run"] f3 fd3) (Dlast_arrival : Def K mg "last_arrival" s_last_arrival ["run"] f4 fd4) (Drun_pairs : Def K mg "run_pairs" s_run_pairs ["cycle", "runs"] f5 fd5) (Dmoved : Def K mg "moved" s_moved ["run", "ticks"] f6 fd6) : FnOk P w K mg base CX0 3 f fd ["cycle", "value"] spAre := by
  have Gis_run := ok_is_run (P := P) (w := w) (base := base) B Dis_run Dis_whole
  have Ggoes_on := ok_goes (P := P) (w := w) (base := base) B Dgoes_on Dlast_arrival
  have Grun_pairs := ok_pairs (P := P) (w := w) (base := base) B Drun_pairs Dmoved
  refine Dare_runs.F.ok scare_runs (fun vs H Q E h => ?_) (fun cdv A outer s H vs Q E hr h => ⟨_, (pss_cons (ps_if (PW.pt (pw_or (pt_not (pt_val (pe_callB call_isi (by rfl) B.n_isinstance (by decide +kernel) (pa_cons (pv 1) (pa_cons (pe_bltn (v := .ty "tuple") (u := .type "tuple") (by rfl) B.n_tuple (by decide +kernel) rfl) pa_nil))))) (pw_or1 (pt_cmpR op_eq (pe_callB call_len_seq (by rfl) B.len PySem.boot_len (pa_cons (pv 1) pa_nil)) pe_int (nomark _)))))
   (pss_one (ps_ret pe_bl))
   pss_nil)
  (pss_cons (ps_if (pt_not (pt_val (pe_callB (cr_all rfl) (by rfl) B.n_all (by decide +kernel) (pa_cons (pe_lc (own := [("run", 2)]) (g := (gName 2)) (tt := tYes) rfl scare_runs.nd (pi_tup (pv 1)) (blkOk_by (N := ["cycle", "value", "run", "before"]) (sc := defScope s_are_runs) (by decide +kernel)) (fun _ _ _ _ _ => (pg_name (i := 2) scare_runs.nd rfl (Or.inl rfl))) (fun _ _ _ _ _ => pts_nil) (fun _ _ _ _ _ => (pe_call Gis_run (hr.mono (by decide)) (by rfl) Dis_run.g Dis_run.F.kp Dis_run.b .nil pass0 (pa_cons (pv 2) pa_nil)))) pa_nil))))
   (pss_one (ps_ret pe_bl))
   pss_nil)
  (pss_one (ps_ret (pe_callB (cr_all rfl) (by rfl) B.n_all (by decide +kernel) (pa_cons (pe_lc (own := [("before", 3), ("run", 2)]) (g := (gTup K 2 (gCons (gName 3) (gCons (gName 2) gNil)))) (tt := tYes) rfl scare_runs.nd (pi_list (pe_call Grun_pairs (hr.mono (by decide)) (by rfl) Drun_pairs.g Drun_pairs.F.kp Drun_pairs.b .nil pass0 (pa_cons (pv 0) (pa_cons (pv 1) pa_nil)))) (blkOk_by (N := ["cycle", "value", "run", "before"]) (sc := defScope s_are_runs) (by decide +kernel)) (fun _ _ _ _ _ => (pg_tup rfl (pgs_cons (pg_name (i := 3) scare_runs.nd rfl (Or.inl rfl)) (pgs_cons (pg_name (i := 2) scare_runs.nd rfl (Or.inl rfl)) pgs_nil)))) (fun _ _ _ _ _ => pts_nil) (fun _ _ _ _ _ => (pe_call Ggoes_on (hr.mono (by decide)) (by rfl) Dgoes_on.g Dgoes_on.F.kp Dgoes_on.b .nil pass0 (pa_cons (pv 3) (pa_cons (pv 2) pa_nil))))) pa_nil)))))), ?_⟩)
  · obtain ⟨c, a, rs, rfl, _⟩ := h; rfl
  · obtain ⟨c, a, rs, rfl, ⟨xs, ha, hP⟩, ok, hl, q⟩ := h
    have lx := paired_len hP
    have l0 : rs.length ≠ 0 := fun e => ok.ne (List.length_eq_zero_iff.mp e)
    refine ⟨_, rfl, .ref a, .ty "tuple", .type "tuple", .type "tuple", true, rfl, .ty _, .base (.tup ha), kit_ty (by decide +kernel), _, rfl, ?_⟩
    refine ⟨_, rfl, a, _, rfl, .inr (SqT.of ha), rfl, _, rfl, ?_⟩
    refine iteN (fun e => l0 (by have := V.int.inj e; omega)) ?_
    refine ⟨_, rfl, a, rfl, ⟨_, SqT.of ha⟩, fun D hD => ?_⟩
    refine lc_tup (xs := xs) (fun i H' => Same H H' ∧ H' D = some (.lst ((List.replicate i true).map V.bl))) ⟨Same.new hD, upd_same⟩ (fun i H' _ ⟨s1, _⟩ => SqT.of (s1 _ _ ha)) ?_ ?_
    · rintro i x H' hx ⟨s1, e1⟩
      have hi := (List.getElem?_eq_some_iff.mp hx).1
      obtain ⟨r, hg, hr'⟩ := paired_at hP hx
      refine ⟨rfl, _, rfl, x, r, rfl, hr'.mono s1, ok.fl r (List.mem_of_getElem? hg), fun H2 s2 => ⟨_, s2 _ _ e1, ?_, fun b' o h => ?_, ?_⟩⟩
      · rw [List.length_map, List.length_replicate]; exact smallL (by omega)
      · rw [upd_ne (ne_of_none h hD)]; exact s2 _ _ (s1 _ _ h)
      · rw [upd_same, List.replicate_succ', List.map_append]; rfl
    · rintro H' ⟨s1, e1⟩
      refine ⟨D, _, rfl, SqL.of e1, _, rfl, ?_⟩
      rw [show ((List.replicate xs.length true).all id) = true by simp]
      refine iteF ?_
      refine ⟨_, rfl, _, rfl, c, a, rs, rfl, ⟨xs, s1 _ _ ha, rns_mono s1 hP⟩, ok.ne, hl, fun p ps H2 s2 hp hpd => ⟨p, rfl, ⟨_, SqL.of hp⟩, fun D2 hD2 => ?_⟩⟩
      have lps := paired_len hpd
      have lpr : (prs c rs).length ≤ rs.length := by unfold prs; rw [List.length_zip]; exact Nat.min_le_right _ _
      refine lc_list (xs := ps) (fun i H' => Same H2 H' ∧ H' D2 = some (.lst ((List.replicate i true).map V.bl))) ⟨Same.new hD2, upd_same⟩ (fun i H' _ ⟨s1, _⟩ => SqL.of (s1 _ _ hp)) ?_ ?_
      · rintro i x H' hx ⟨s3, e3⟩
        have hi := (List.getElem?_eq_some_iff.mp hx).1
        obtain ⟨⟨b, r⟩, hg, t, u, v, rfl, ht, hu, hv⟩ := paired_at hpd hx
        refine ⟨t, _, rfl, SqT.of (s3 _ _ ht), rfl, _, _, rfl, _, _, rfl, rfl, rfl, ?_⟩
        refine ⟨_, rfl, _, rfl, u, v, b, r, rfl, hu.mono s3, hv.mono s3, _, e3, ?_, fun b' o h => ?_, ?_⟩
        · rw [List.length_map, List.length_replicate]; exact smallL (by omega)
        · rw [upd_ne (ne_of_none h hD2)]; exact s3 _ _ h
        · rw [upd_same, List.replicate_succ', List.map_append, decide_eq_true (prs_goes ok _ (List.mem_of_getElem? hg))]; rfl
      · rintro H' ⟨s3, e3⟩
        refine ⟨D2, _, rfl, SqL.of e3, ?_⟩
        rw [show ((List.replicate ps.length true).all id) = true by simp]
        exact q H' ((s1.trans s2).trans s3)
theorem ok_asc {f f1 : Addr} {fd fd1 : FuncData} (B : Blt mg tC) (Dascending : Def K mg "ascending" s_ascending ["cycle", "rows"] f fd) (Dmoved : Def K mg "moved" s_moved ["run", "ticks"] f1 fd1) : FnOk P w K mg base CX0 2 f fd ["cycle", "rows"] spAsc := by
  have Gmoved := ok_moved (P := P) (w := w) (base := base) B Dmoved
  refine Dascending.F.ok scascending (fun vs H Q E h => ?_) (fun cdv A outer s H vs Q E hr h => ⟨_, (pss_one (ps_ret (pe_callB cr_sortedTs (by rfl) B.n_sorted (by decide +kernel) (pa_cons (pe_lc (own := [("row", 2)]) (g := (gName 2)) (tt := tYes) rfl scascending.nd (pi_list (pv 1)) (blkOk_by (N := ["cycle", "rows", "row"]) (sc := defScope s_ascending) (by decide +kernel)) (fun _ _ _ _ _ => (pg_name (i := 2) scascending.nd rfl (Or.inl rfl))) (fun _ _ _ _ _ => pts_nil) (fun _ _ _ _ _ => (pe_call Gmoved (hr.mono (by decide)) (by rfl) Dmoved.g Dmoved.F.kp Dmoved.b .nil pass0 (pa_cons (pv 2) (pa_cons (pe_un un_neg (pe_op op_mulW (pe_op op_fdivW (pe_ix (r := rIxT K) (by exact ix_tup) (pv 2) pe_int (fun _ _ => rfl)) (pv 0)) (pv 0))) pa_nil))))) pa_nil)))), ?_⟩)
  · obtain ⟨c, a, xs, nss, d, rfl, _⟩ := h; rfl
  · obtain ⟨c, a, xs, nss, d, rfl, ha, hP, c1, c30, d1, d100, hl, hn, q⟩ := h
    have lx := paired_len hP
    refine ⟨_, rfl, a, rfl, ⟨_, SqL.of ha⟩, fun D hD => ?_⟩
    refine lc_list (xs := xs) (fun i H' => ∃ ys, Same H H' ∧ H' D = some (.lst ys) ∧ Paired (RowAt H') ys ((nss.take i).map (homeL c))) ⟨[], Same.new hD, upd_same, .nil⟩ (fun i H' _ ⟨_, s1, _⟩ => SqL.of (s1 _ _ ha)) ?_ ?_
    · rintro i x H' hx ⟨ys, s1, e1, hY⟩
      obtain ⟨ns, hg, b, rfl, hb⟩ := paired_at hP hx
      have hns := hn ns (List.mem_of_getElem? hg)
      have hb' := s1 _ _ hb
      match ns, hns with
      | [], hns => simp at hns; omega
      | n :: ns, hns =>
        have ly := paired_len hY
        rw [List.length_map, List.length_take] at ly
        refine ⟨rfl, _, rfl, _, rfl, b, _, _, _, rfl, rfl, SqT.of hb', atI_nat (j := 0) rfl, _, rfl, _, _, rfl, rfl, divF c1 c30, _, rfl, _, _, rfl, rfl, mulF hns.2 c1 c30, _, rfl, b, _, n :: ns, rfl, hb', by rw [hns.1]; exact d100, fun e H2 s2 he0 he => ⟨ys, s2 _ _ e1, smallL (by omega), ys ++ [.ref e], fun b' o h => ?_, upd_same, ?_⟩⟩
        · rw [upd_ne (ne_of_none h hD)]; exact s2 _ _ (s1 _ _ h)
        · rw [List.take_add_one, hg, List.map_append]
          have nD : ∀ b' o, H' b' = some o → b' ≠ D → (upd H2 D (.lst (ys ++ [.ref e]))) b' = some o := fun b' o h1 h2 => by rw [upd_ne h2]; exact s2 _ _ h1
          refine paired_snoc (L2.Paired.mapP hY fun _ _ ⟨b', e', h'⟩ => ⟨b', e', nD _ _ h' (ne_of h' e1 (fun z => nomatch z))⟩) ⟨e, rfl, ?_⟩
          rw [upd_ne (fun z => by rw [z, e1] at he0; cases he0)]
          exact he
    · rintro H' ⟨ys, s1, e1, hY⟩
      rw [List.take_of_length_le (by omega)] at hY
      have ly := paired_len hY
      refine ⟨D, ys, kRow H', d, rfl, SqL.of e1, d1, fun x hx => ?_, fun zs p pm pw hp => ?_⟩
      · obtain ⟨b, e, h⟩ := row_mem hY x hx
        refine ⟨?_, b, e, h⟩
        have : kRow H' x ∈ nss.map (homeL c) := by rw [← kRow_map hY]; exact List.mem_map.mpr ⟨x, hx, rfl⟩
        obtain ⟨ns, hm, e2⟩ := List.mem_map.mp this
        rw [← e2]
        show (homeL c ns).length = d
        unfold homeL
        rw [List.length_map]
        exact (hn ns hm).1
      · have hz : Paired (RowAt H') zs (zs.map (kRow H')) := row_of fun x hx => row_mem hY x (pm.mem_iff.mp hx)
        refine q p zs (zs.map (kRow H')) _ (s1.trans (Same.new hp)) (s1.free hp) upd_same (L2.Paired.mapP hz fun _ _ r => r.mono (Same.new hp)) ?_ ?_
        · rw [← kRow_map hY]
          exact pm.map _
        · rw [List.pairwise_map]
          exact pw
end
end Gr

set_option Elab.async false
set_option linter.all false
set_option pp.deepTerms false
set_option pp.maxSteps 3000
set_option maxRecDepth 100000
set_option maxHeartbeats 4000000
set_option exponentiation.threshold 3000
namespace Gr
open PySem PySem.Spec PyProof.Rows L2
open Pm (Rn)
def BR (m : Int) (rs : List Rn) : Prop := ∀ r ∈ rs, -m ≤ r.1 ∧ r.1 ≤ m ∧ -m ≤ r.2.2 ∧ r.2.2 ≤ m
def BA (m : Int) (rs : List Rn) : Prop := ∀ r ∈ rs, -m ≤ r.2.2 ∧ r.2.2 ≤ m
theorem cut_one (x : V) (xs : List V) : cutV (x :: xs) (some 1) none = xs ∧ ¬ (HT.sIx (x :: xs).length 0 (some 1) = 0 ∧ HT.sIx (x :: xs).length (x :: xs).length none = (x :: xs).length) := by
  have e1 := HT.sIx_nat (x :: xs).length 0 1
  have e2 := HT.sIx_none (x :: xs).length (x :: xs).length
  have l : min 1 (x :: xs).length = 1 := by rw [List.length_cons]; omega
  rw [l] at e1
  constructor
  · unfold cutV
    rw [show (1 : Int) = ((1 : Nat) : Int) from rfl, e1, e2]
    simp
  · rw [show (1 : Int) = ((1 : Nat) : Int) from rfl, e1]
    omega
/-- what the loop of longest_runs keeps: the joined runs, and those that are left -/
structure LInv (c m : Int) (rs J rest : List Rn) : Prop where
  ne : J ≠ []
  nj : Pm.NJ J
  ok : Pm.Ok c (J ++ rest)
  g : ∀ z y, Pm.G c rs z y ↔ Pm.G c (J ++ rest) z y
  b : BR m J
theorem LInv.join {c m : Int} {rs K rest : List Rn} {l r : Rn} (h : LInv c m rs (K ++ [l]) (r :: rest)) (j : Pm.Joins l r) : LInv c m rs (K ++ [(l.1, r.2.1, l.2.2)]) rest := by
  have o := h.ok
  have g := h.g
  rw [List.append_assoc, List.singleton_append] at o g
  refine ⟨by simp, h.nj.relast rfl rfl, ?_, fun z y => ?_, fun s hs => ?_⟩
  · rw [List.append_assoc, List.singleton_append]; exact o.join j
  · rw [g z y, List.append_assoc, List.singleton_append]
    exact Pm.G_join (o.fl l (by simp)) (o.fl r (by simp)) j z y
  · rcases List.mem_append.mp hs with hs | hs
    · exact h.b s (List.mem_append_left _ hs)
    · rw [List.mem_singleton.mp hs]; exact h.b l (by simp)
theorem LInv.push {c m : Int} {rs K rest : List Rn} {l r : Rn} (h : LInv c m rs (K ++ [l]) (r :: rest)) (hb : -m ≤ r.1 ∧ r.1 ≤ m ∧ -m ≤ r.2.2 ∧ r.2.2 ≤ m) (j : ¬ Pm.Joins l r) : LInv c m rs (K ++ [l] ++ [r]) rest := by
  have o := h.ok
  have g := h.g
  refine ⟨by simp, h.nj.snoc j, by rw [List.append_assoc, List.singleton_append]; exact o, fun z y => by rw [List.append_assoc, List.singleton_append]; exact g z y, fun s hs => ?_⟩
  rcases List.mem_append.mp hs with hs | hs
  · exact h.b s hs
  · rw [List.mem_singleton.mp hs]; exact hb
theorem rns_upd {H : Hp} {J : Addr} {us : List V} {o : HO} (h : H J = some (.lst us)) {xs : List V} {rs : List Rn} (p : Paired (RnAt H) xs rs) : Paired (RnAt (upd H J o)) xs rs :=
  L2.Paired.mapP p fun _ _ ⟨b, e, hb⟩ => ⟨b, e, by rw [upd_ne (ne_of hb h (fun z => nomatch z))]; exact hb⟩
theorem same_upd {H0 H : Hp} {J : Addr} {o : HO} (s : Same H0 H) (h : H0 J = none) : Same H0 (upd H J o) := fun b u e => by
  rw [upd_ne (ne_of_none e h)]; exact s b u e
def row3 (r : Rn) : List Int := [r.1, r.2.1, r.2.2]
def unrow (ns : List Int) : Rn := (ns.getD 0 0, ns.getD 1 0, ns.getD 2 0)
theorem unrow_row (r : Rn) : unrow (row3 r) = r := rfl
theorem row_rn {H : Hp} : ∀ {xs : List V} {rs : List Rn}, Paired (RnAt H) xs rs → Paired (RowAt H) xs (rs.map row3)
  | _, _, .nil => .nil
  | _, _, .cons ⟨b, e, h⟩ t => .cons ⟨b, e, h⟩ (row_rn t)
theorem rn_row {H : Hp} : ∀ {xs : List V} {rs : List Rn}, Paired (RowAt H) xs (rs.map row3) → Paired (RnAt H) xs rs
  | _, [], .nil => .nil
  | _, _ :: _, .cons ⟨b, e, h⟩ t => .cons ⟨b, e, h⟩ (rn_row t)
theorem home_row (c : Int) (r : Rn) : homeL c (row3 r) = row3 (Pm.home c r) := rfl
/-- what a sorted list of rows is -/
theorem rows_back {c : Int} {X : List Rn} {zs : List (List Int)} (pm : zs.Perm ((X.map row3).map (homeL c))) (pw : zs.Pairwise fun a b => TsO.lexL b a = false) :
    ∃ Z : List Rn, zs = Z.map row3 ∧ Z.Perm (X.map (Pm.home c)) ∧ Z.Pairwise fun a b => a.1 ≤ b.1 := by
  have e0 : (X.map row3).map (homeL c) = (X.map (Pm.home c)).map row3 := by
    rw [List.map_map, List.map_map]; rfl
  rw [e0] at pm
  have e1 : zs = (zs.map unrow).map row3 := by
    rw [List.map_map]
    refine (List.map_id' zs).symm.trans (List.map_congr_left fun z hz => ?_)
    obtain ⟨r, _, e⟩ := List.mem_map.mp (pm.mem_iff.mp hz)
    subst e
    rfl
  refine ⟨zs.map unrow, e1, ?_, ?_⟩
  · have := pm.map unrow
    rw [List.map_map] at this
    have e2 : (X.map (Pm.home c)).map (unrow ∘ row3) = X.map (Pm.home c) := by
      refine (List.map_congr_left fun r _ => unrow_row r).trans (List.map_id' _)
    rw [e2] at this
    exact this
  · rw [e1, List.pairwise_map] at pw
    refine pw.imp fun {a b} h => ?_
    unfold row3 TsO.lexL at h
    split at h
    · omega
    · have := of_decide_eq_false h; omega
theorem ba_home {c m : Int} (c1 : 1 ≤ c) {X Z : List Rn} (hb : BR m X) (p : Z.Perm (X.map (Pm.home c))) : BA (2 * m + c) Z := fun r hr => by
  obtain ⟨x, hx, e⟩ := List.mem_map.mp (p.mem_iff.mp hr)
  have := hb x hx
  have h1 := Pm.home_rng c1 x
  subst e
  unfold Pm.home at *
  simp only [Pm.mv1, Pm.mv3] at *
  omega
def spLongest : Sp := fun vs H Q _ => ∃ (c m : Int) (a : Addr) (rs : List Rn), vs = [.int c, .ref a] ∧ RnsT H a rs ∧ Pm.Ok c rs ∧ c ≤ 10 ^ 30 ∧ rs.length ≤ 50000 ∧ BR m rs ∧ m ≤ 10 ^ 200 ∧
  ∀ p H' Z, Same H H' → RnsT H' p Z → Pm.Can c Z → (∀ z y, Pm.G c rs z y ↔ Pm.G c Z z y) → Z.length ≤ rs.length → BA (2 * m + c) Z → Q (.ref p) H'
section
variable {P : Program} {w : World} {K : PySem.W.Frag} {mg : Str → Option Value} {base : Heap} {tC : Tok}
theorem ok_longest {f f1 f2 f3 f4 : Addr} {fd fd1 fd2 fd3 fd4 : FuncData} (B : Blt mg tC) (Dlongest_runs : Def K mg "longest_runs" s_longest_runs ["cycle", "runs"] f fd) (Djoins : Def K mg "joins" s_joins ["before", "run"] f1 fd1) (Dlast_arrival : Def K mg "last_arrival" s_last_arrival ["run"] f2 fd2) (Dmoved : Def K mg "moved" s_moved ["run", "ticks"] f3 fd3) (Dascending : Def K mg "ascending" s_ascending ["cycle", "rows"] f4 fd4) : FnOk P w K mg base CX0 3 f fd ["cycle", "runs"] spLongest := by
  have Gjoins := ok_joins (P := P) (w := w) (base := base) B Djoins Dlast_arrival
  have Gmoved := ok_moved (P := P) (w := w) (base := base) B Dmoved
  have Gascending := ok_asc (P := P) (w := w) (base := base) B Dascending Dmoved
  refine Dlongest_runs.F.ok sclongest_runs (fun vs H Q E h => ?_) (fun cdv A outer s H vs Q E hr h => ⟨_, (pss_cons (ps_set (i := 2) sclongest_runs.nd rfl (Or.inl rfl) (pe_lst (pa_cons (pe_ix ix_tup (pv 1) pe_int (fun _ _ => rfl)) pa_nil)))
  (pss_cons (ps_for PassesOwn.never rfl (pi_tup (pe_slice sl_tupA (pv 1) (po_some pe_int) po_none)) (pg_tup rfl (pgs_cons (pg_name (i := 3) sclongest_runs.nd rfl (Or.inl rfl)) (pgs_cons (pg_name (i := 4) sclongest_runs.nd rfl (Or.inl rfl)) (pgs_cons (pg_name (i := 5) sclongest_runs.nd rfl (Or.inl rfl)) pgs_nil))))
   (pss_one (ps_if (pt_val (pe_call Gjoins (hr.mono (by decide)) (by rfl) Djoins.g Djoins.F.kp Djoins.b .nil pass0 (pa_cons (pe_ix ix_list (pv 2) (pe_un un_neg pe_int) (fun _ _ => rfl)) (pa_cons (pe_tup (pa_cons (pv 3) (pa_cons (pv 4) (pa_cons (pv 5) pa_nil)))) pa_nil))))
   (pss_cons (ps_asg (pe_ix ix_list (pv 2) (pe_un un_neg pe_int) (fun _ _ => rfl)) (pg_tup rfl (pgs_cons (pg_name (i := 6) sclongest_runs.nd rfl (Or.inl rfl)) (pgs_cons (pg_name (i := 7) sclongest_runs.nd rfl (Or.inl rfl)) (pgs_cons (pg_name (i := 8) sclongest_runs.nd rfl (Or.inl rfl)) pgs_nil)))))
  (pss_one (ps_asg (pe_tup (pa_cons (pv 6) (pa_cons (pv 4) (pa_cons (pv 8) pa_nil)))) (pg_sub (pv 2) (pe_un un_neg pe_int) set_list))))
   (pss_one (ps_expr (pe_bm PySem.F.plainAttrs_list PySem.F.slot_list_append PySem.F.type_list_append mt_append (pv 2) (pa_cons (pe_tup (pa_cons (pv 3) (pa_cons (pv 4) (pa_cons (pv 5) pa_nil)))) pa_nil)))))))
  (pss_cons (ps_asg (pe_ix ix_list (pv 2) pe_int (fun _ _ => rfl)) (pg_tup rfl (pgs_cons (pg_name (i := 3) sclongest_runs.nd rfl (Or.inl rfl)) (pgs_cons (pg_name (i := 4) sclongest_runs.nd rfl (Or.inl rfl)) (pgs_cons (pg_name (i := 5) sclongest_runs.nd rfl (Or.inl rfl)) pgs_nil)))))
  (pss_cons (ps_if (pt_cmpR op_eq (pe_op op_sub (pv 4) (pv 3)) (pe_op op_sub (pv 0) pe_int) (nomark _))
   (pss_one (ps_ret (pe_tup (pa_cons (pe_tup (pa_cons pe_int (pa_cons (pe_op op_sub (pv 0) pe_int) (pa_cons (pe_op op_sub (pv 5) (pv 3)) pa_nil)))) pa_nil))))
   pss_nil)
  (pss_cons (ps_asg (pe_ix ix_list (pv 2) (pe_un un_neg pe_int) (fun _ _ => rfl)) (pg_tup rfl (pgs_cons (pg_name (i := 6) sclongest_runs.nd rfl (Or.inl rfl)) (pgs_cons (pg_name (i := 9) sclongest_runs.nd rfl (Or.inl rfl)) (pgs_cons (pg_name (i := 8) sclongest_runs.nd rfl (Or.inl rfl)) pgs_nil)))))
  (Evl.pss_cut (ps_if (pt_val (pe_call Gjoins (hr.mono (by decide)) (by rfl) Djoins.g Djoins.F.kp Djoins.b .nil pass0 (pa_cons (pe_tup (pa_cons (pv 6) (pa_cons (pv 9) (pa_cons (pv 8) pa_nil)))) (pa_cons (pe_call Gmoved (hr.mono (by decide)) (by rfl) Dmoved.g Dmoved.F.kp Dmoved.b .nil pass0 (pa_cons (pe_ix ix_list (pv 2) pe_int (fun _ _ => rfl)) (pa_cons (pv 0) pa_nil))) pa_nil))))
   (pss_one (ps_set (i := 2) sclongest_runs.nd rfl (Or.inl rfl) (pe_lst (pa_cons (pe_tup (pa_cons (pv 6) (pa_cons (pe_op op_add (pv 4) (pv 0)) (pa_cons (pv 8) pa_nil)))) (StX.pa_star (pe_slice sl_list (pv 2) (po_some pe_int) (po_some (pe_un un_neg pe_int))) pa_nil)))))
   pss_nil)
  (pss_one (ps_ret (pe_callTy call_tuple_of (by rfl) B.n_tuple (by decide +kernel) (pa_cons (pe_call Gascending (hr.mono (by decide)) (by rfl) Dascending.g Dascending.F.kp Dascending.b .nil pass0 (pa_cons (pv 0) (pa_cons (pv 2) pa_nil))) pa_nil)))))))))), ?_⟩)
  · obtain ⟨c, m, a, rs, rfl, _⟩ := h; rfl
  · obtain ⟨c, m, a, rs, rfl, ⟨xs, ha, hP⟩, ok, c30, hl, hB, m200, q⟩ := h
    have c1 := ok.c1
    match rs, xs, hP, ok.ne with
    | r0 :: rest, x0 :: xr, .cons hr0 hPr, _ =>
      have lr := paired_len hPr
      have one : 1 ≤ sizeLine := by decide
      have three : 3 ≤ sizeLine := by decide
      refine ⟨_, rfl, a, _, _, _, rfl, rfl, SqT.of ha, atI_nat (j := 0) rfl, one, fun J hJ => ?_⟩
      have sJ := Same.new hJ (o := .lst [x0])
      refine ⟨_, rfl, _, rfl, ?_⟩
      unfold tNoPart
      refine ⟨a, _, rfl, SqT.of (sJ _ _ ha), fun hw => absurd hw (cut_one x0 xr).2, fun _ S hS => ?_⟩
      rw [(cut_one x0 xr).1]
      have nSJ : J ≠ S := fun e => by rw [← e, upd_same] at hS; cases hS
      have sS := Same.new hS (o := .tup xr)
      refine ⟨S, rfl, ⟨_, SqT.of upd_same⟩, ?_⟩
      refine for_tup (xs := xr) (fun i σ H' => ∃ y3 y4 y5 y6 y7 y8 y9 us Jl, σ = [some (.int c), some (.ref a), some (.ref J), y3, y4, y5, y6, y7, y8, y9] ∧ Same H H' ∧ H' S = some (.tup xr) ∧ H' J = some (.lst us) ∧ Paired (RnAt H') us Jl ∧ Jl.length ≤ i + 1 ∧ LInv c m (r0 :: rest) Jl (rest.drop i))
        ⟨none, none, none, none, none, none, none, [x0], [r0], rfl, sJ.trans sS, upd_same, by rw [upd_ne nSJ]; exact upd_same, .cons (hr0.mono (sJ.trans sS)) .nil, Nat.le_refl _, ⟨by simp, trivial, ok, fun z y => Iff.rfl, fun s hs => by rw [List.mem_singleton.mp hs]; exact hB r0 (by simp)⟩⟩
        (fun i σ H' _ ⟨_, _, _, _, _, _, _, _, _, _, _, e, _⟩ => SqT.of e) ?_ ?_
      · rintro i x σ H' hx ⟨y3, y4, y5, y6, y7, y8, y9, us, Jl, rfl, s1, eS, eJ, hJl, lJ, inv⟩
        obtain ⟨r, hg, b, rfl, hb0⟩ := paired_at hPr hx
        have hi := (List.getElem?_eq_some_iff.mp hg).1
        have hb := s1 _ _ hb0
        have ed : rest.drop i = r :: rest.drop (i + 1) := by
          rw [List.drop_eq_getElem_cons hi, (List.getElem?_eq_some_iff.mp hg).2]
        rw [ed] at inv
        obtain ⟨Kl, l, rfl⟩ : ∃ Kl l, Jl = Kl ++ [l] := by
          rcases List.eq_nil_or_concat Jl with e | ⟨p, l, e⟩
          · exact absurd e inv.ne
          · exact ⟨p, l, by rw [e, List.concat_eq_append]⟩
        obtain ⟨ks, xl, rfl, hK, bl, rfl, hbl⟩ := paired_split hJl
        have lK := paired_len hK
        refine ⟨b, _, rfl, SqT.of hb, rfl, _, _, rfl, _, _, rfl, _, _, rfl, rfl, ?_⟩
        refine ⟨_, rfl, _, rfl, J, _, _, _, rfl, rfl, SqL.of eJ, atI_last _ _, _, rfl, _, rfl, _, rfl, three, fun T hT => ⟨.ref bl, .ref T, l, r, rfl, ⟨bl, rfl, Same.new hT _ _ hbl⟩, ⟨T, rfl, upd_same⟩, _, rfl, ?_⟩⟩
        have sT := Same.new hT (o := .tup [.int r.1, .int r.2.1, .int r.2.2])
        have eJT := sT _ _ eJ
        have lKl : (Kl ++ [l]).length = Kl.length + 1 := by rw [List.length_append]; rfl
        by_cases j : Pm.Joins l r
        · refine iteY j ?_
          refine ⟨_, rfl, _, rfl, J, _, _, _, rfl, rfl, SqL.of eJT, atI_last _ _, bl, _, rfl, SqT.of (sT _ _ hbl), rfl, _, _, rfl, _, _, rfl, _, _, rfl, rfl, ?_⟩
          refine ⟨_, rfl, _, rfl, _, rfl, three, fun T2 hT2 => ?_⟩
          have sT2 := sT.trans (Same.new hT2 (o := .tup [.int l.1, .int r.2.1, .int l.2.2]))
          refine ⟨_, rfl, _, rfl, J, _, _, ks.length, rfl, rfl, sT2 _ _ eJ, ixN_last _ _, ?_⟩
          have nJ2 : T2 ≠ J := fun e => by rw [e, eJT] at hT2; cases hT2
          refine ⟨_, _, _, _, _, _, _, ks ++ [.ref T2], Kl ++ [(l.1, r.2.1, l.2.2)], rfl, same_upd (s1.trans sT2) hJ, ?_, ?_, ?_, ?_, inv.join j⟩
          · rw [upd_ne nSJ.symm]; exact sT2 _ _ eS
          · rw [upd_same, set_last]
          · exact paired_snoc (rns_upd (sT2 _ _ eJ) (rns_mono sT2 hK)) ⟨T2, rfl, by rw [upd_ne nJ2]; exact upd_same⟩
          · rw [List.length_append] at lJ ⊢
            simp only [List.length_singleton] at lJ ⊢
            omega
        · refine iteN j ?_
          refine ⟨_, rfl, .inl ⟨rfl, _, SqL.of eJT⟩, _, rfl, _, rfl, _, rfl, three, fun T2 hT2 => ?_⟩
          have sT2 := sT.trans (Same.new hT2 (o := .tup [.int r.1, .int r.2.1, .int r.2.2]))
          have nJ2 : T2 ≠ J := fun e => by rw [e, eJT] at hT2; cases hT2
          have lus : (ks ++ [V.ref bl]).length ≤ 60000 := by
            have := paired_len hJl
            rw [List.length_cons] at hl
            omega
          refine ⟨J, _, _, rfl, rfl, sT2 _ _ eJ, smallL (by omega), ?_⟩
          refine ⟨_, _, _, _, _, _, _, ks ++ [.ref bl] ++ [.ref T2], Kl ++ [l] ++ [r], rfl, same_upd (s1.trans sT2) hJ, ?_, upd_same, ?_, ?_, inv.push (hB r (List.mem_cons_of_mem _ (List.mem_of_getElem? hg))) j⟩
          · rw [upd_ne nSJ.symm]; exact sT2 _ _ eS
          · exact paired_snoc (rns_upd (sT2 _ _ eJ) (rns_mono sT2 hJl)) ⟨T2, rfl, by rw [upd_ne nJ2]; exact upd_same⟩
          · rw [List.length_append]
            simp only [List.length_singleton]
            omega
      · rintro σ H' ⟨y3, y4, y5, y6, y7, y8, y9, us, Jl, rfl, s1, eS, eJ, hJl, lJ, inv⟩
        have inv' := inv
        rw [List.drop_of_length_le (by omega)] at inv'
        have okJ := inv'.ok
        have gJ := inv'.g
        rw [List.append_nil] at okJ gJ
        have njJ := inv'.nj
        have bJ := inv'.b
        clear inv inv'
        match Jl, us, hJl, okJ.ne with
        | h0 :: tl, _, .cons (a := xh) (l₁ := xt) ⟨bh, ebh, hbh⟩ hT, _ =>
          subst ebh
          refine ⟨_, rfl, J, _, _, _, rfl, rfl, SqL.of eJ, atI_nat (j := 0) rfl, bh, _, rfl, SqT.of hbh, rfl, _, _, rfl, _, _, rfl, _, _, rfl, rfl, ?_⟩
          refine ⟨_, rfl, _, rfl, _, _, rfl, rfl, _, rfl, _, _, rfl, rfl, rfl, _, rfl, ?_⟩
          have mh := bJ h0 (by simp)
          by_cases full : h0.2.1 - h0.1 = c - 1
          · refine iteY (congrArg V.int full) ?_
            obtain rfl := Pm.ok_full okJ full
            obtain ⟨cn, gn⟩ := Pm.can_full okJ full
            refine ⟨_, rfl, _, _, rfl, rfl, _, rfl, _, rfl, _, _, rfl, rfl, three, fun T hT => ⟨one, fun U hU => ?_⟩⟩
            refine q U _ [(0, c - 1, h0.2.2 - h0.1)] ((s1.trans (Same.new hT)).trans (Same.new hU)) ⟨_, upd_same, .cons ⟨T, rfl, Same.new hU _ _ upd_same⟩ .nil⟩ cn (fun z y => (gJ z y).trans (gn z y)) (by simp) fun r hr => ?_
            rw [List.mem_singleton.mp hr]; simp only; omega
          · refine iteN (fun e => full (V.int.inj e)) ?_
            obtain ⟨Kl, l, eK⟩ : ∃ Kl l, h0 :: tl = Kl ++ [l] := by
              rcases List.eq_nil_or_concat (h0 :: tl) with e | ⟨p, l, e⟩
              · cases e
              · exact ⟨p, l, by rw [e, List.concat_eq_append]⟩
            have hJl : Paired (RnAt H') (V.ref bh :: xt) (h0 :: tl) := .cons ⟨bh, rfl, hbh⟩ hT
            have hJ2 := hJl
            rw [eK] at hJ2
            obtain ⟨ks, xl, eks, hK, bl, rfl, hbl⟩ := paired_split hJ2
            have eJ2 := eJ
            rw [eks] at eJ2
            have ml : l ∈ h0 :: tl := by rw [eK]; simp
            have bl' := bJ l ml
            refine ⟨_, rfl, _, rfl, J, _, _, _, rfl, rfl, SqL.of eJ2, atI_last _ _, bl, _, rfl, SqT.of hbl, rfl, _, _, rfl, _, _, rfl, _, _, rfl, rfl, ?_⟩
            refine ⟨fun σ' H2 => ∃ L us' X X0, σ' = [some (.int c), some (.ref a), some (.ref L), some (.int h0.1), some (.int h0.2.1), some (.int h0.2.2), some (.int l.1), y7, some (.int l.2.2), some (.int l.2.1)] ∧ Same H H2 ∧ H2 L = some (.lst us') ∧ Paired (RnAt H2) us' X ∧ X.Perm X0 ∧ Pm.Ok c X0 ∧ Pm.NoJoin c X0 ∧
              (∀ z y, Pm.G c (r0 :: rest) z y ↔ Pm.G c X0 z y) ∧ X.length ≤ (r0 :: rest).length ∧ BR m X, ?_, ?_⟩
            · refine ⟨_, rfl, _, rfl, _, rfl, three, fun T hT => ⟨_, rfl, J, _, _, _, rfl, rfl, SqL.of (Same.new hT _ _ eJ), atI_nat (j := 0) rfl, _, rfl, bh, c, [h0.1, h0.2.1, h0.2.2], rfl, Same.new hT _ _ hbh, Nat.le_of_ble_eq_true rfl, fun e H1 s2 hn he => ⟨.ref T, .ref e, l, Pm.mv c h0, rfl, ⟨T, rfl, s2 _ _ upd_same⟩, ⟨e, rfl, he⟩, _, rfl, ?_⟩⟩⟩
              have sT := (Same.new hT (o := .tup [.int l.1, .int l.2.1, .int l.2.2])).trans s2
              by_cases j : Pm.Joins l (Pm.mv c h0)
              · refine iteY j ?_
                match Kl, ks, hK, eK, eks with
                | [], _, _, eK, _ =>
                  simp only [List.nil_append, List.cons.injEq] at eK
                  obtain ⟨rfl, _⟩ := eK
                  unfold Pm.Joins at j
                  simp only [Pm.mv1] at j
                  omega
                | k0 :: mid, _, .cons (a := xk) (l₁ := xm) rk hM, eK, eks =>
                  simp only [List.cons_append, List.cons.injEq] at eK
                  obtain ⟨rfl, rfl⟩ := eK
                  simp only [List.cons_append, List.cons.injEq] at eks
                  obtain ⟨rfl, rfl⟩ := eks
                  obtain ⟨o2, n2, g2⟩ := Pm.ok_wrap okJ njJ j
                  have lM := paired_len hM
                  refine ⟨_, rfl, _, rfl, _, rfl, _, _, rfl, rfl, _, rfl, three, fun T2 hT2 => ?_⟩
                  have sT2 := sT.trans (Same.new hT2 (o := .tup [.int l.1, .int (h0.2.1 + c), .int l.2.2]))
                  refine ⟨_, rfl, _, rfl, _, rfl, _, rfl, J, _, rfl, SqL.of (sT2 _ _ eJ), fun L hL => ?_⟩
                  have ec : cutV (V.ref bh :: (xm ++ [V.ref bl])) (some 1) (some (-1)) = xm := by
                    have := cut_from (V.ref bh :: xm) (V.ref bl) 1 (by rw [List.length_cons]; omega)
                    simpa using this
                  rw [ec]
                  refine ⟨L, xm, rfl, .inr (SqL.of upd_same), ?_⟩
                  have lxm : xm.length ≤ 60000 := by
                    have := lJ
                    simp only [List.length_cons, List.length_append] at this hl
                    omega
                  refine ⟨?_, fun M hM2 => ?_⟩
                  · rw [List.append_nil, List.length_cons]
                    have := smallL (n := xm.length + 1) (by omega)
                    omega
                  rw [List.append_nil]
                  have sL := (sT2.trans (Same.new hL (o := .lst xm))).trans (Same.new hM2 (o := .lst (.ref T2 :: xm)))
                  refine ⟨M, .ref T2 :: xm, (l.1, h0.2.1 + c, l.2.2) :: mid, mid ++ [(l.1, h0.2.1 + c, l.2.2)], rfl, s1.trans sL, upd_same, .cons ⟨T2, rfl, Same.new hM2 _ _ (Same.new hL _ _ upd_same)⟩ (rns_mono sL hM), ?_, o2, n2, fun z y => (gJ z y).trans (g2 z y), ?_, ?_⟩
                  · exact (List.perm_append_singleton _ _).symm
                  · simp only [List.length_cons, List.length_append, List.length_nil] at lJ ⊢; omega
                  · intro r hr
                    rcases List.mem_cons.mp hr with rfl | hr
                    · exact ⟨bl'.1, bl'.2.1, bl'.2.2.1, bl'.2.2.2⟩
                    · exact bJ r (by simp [hr])
              · refine iteN j ?_
                have hlast : (h0 :: tl).getLast? = some l := by rw [eK, List.getLast?_concat]
                exact ⟨J, _, h0 :: tl, h0 :: tl, rfl, s1.trans sT, sT _ _ eJ, rns_mono sT hJl, List.Perm.refl _, okJ, Pm.nojoin_plain okJ njJ hlast j, gJ, by rw [List.length_cons (as := rest)]; omega, bJ⟩
            · rintro σ' H2 ⟨L, us', X, X0, rfl, s2, eL, hX, pX, ok0, nj0, g0, lX, bX⟩
              refine ⟨_, rfl, _, rfl, c, L, us', X.map row3, 3, rfl, eL, row_rn hX, c1, c30, by decide, by decide, ?_, fun ns hns => ?_, fun p ys zs H3 s3 _ hp hY pm pw => ?_⟩
              · rw [List.length_map]; omega
              · obtain ⟨r, hr, rfl⟩ := List.mem_map.mp hns
                have := bX r hr
                have : (10 : Int) ^ 200 ≤ 10 ^ 300 := by decide +kernel
                exact ⟨rfl, by show Fit r.1; unfold Fit; omega⟩
              · obtain ⟨Z, rfl, pZ, sZ⟩ := rows_back pm pw
                have pZ0 := pZ.trans (pX.map (Pm.home c))
                obtain ⟨cn, gn⟩ := Pm.can_sorted ok0 nj0 pZ0 sZ
                refine ⟨p, ys, rfl, .inl ⟨SqL.of hp, fun u hu => ?_⟩⟩
                refine q u _ Z ((s2.trans s3).trans (Same.new hu)) ⟨ys, upd_same, rns_mono (Same.new hu) (rn_row hY)⟩ cn (fun z y => (g0 z y).trans (gn z y)) ?_ (ba_home c1 bX pZ)
                rw [pZ.length_eq, List.length_map]; exact lX
end
end Gr

set_option Elab.async false
set_option linter.all false
set_option pp.deepTerms false
set_option pp.maxSteps 3000
set_option maxRecDepth 100000
set_option maxHeartbeats 4000000
set_option exponentiation.threshold 3000
namespace Gr
open PySem PySem.Spec PyProof.Rows L2
open Pm (Rn)
def spPlace : Sp := fun vs H Q _ => ∃ (c x : Int) (a : Addr) (rs : List Rn), vs = [.int c, .ref a, .int x] ∧ RnsT H a rs ∧ Pm.Ok c rs ∧ c ≤ 10 ^ 30 ∧ rs.length ≤ 60000 ∧ (∀ r ∈ rs, Fit (r.2.1 - x)) ∧
  ∀ t H' pre r post k, Same H H' → rs = pre ++ r :: post → H' t = some (.tup [.int (pre.length : Int), .int (k * c)]) → (∀ a ∈ pre, a.2.1 + k * c < x) → x ≤ r.2.1 + k * c → (∀ a ∈ rs, a.2.1 + k * c - c < x) → Q (.ref t) H'
def spArrW : Sp := fun vs H Q _ => ∃ (y : V) (x : Int) (r : Rn), vs = [y, .int x] ∧ RnAt H y r ∧ Q (.int (Pm.stepF r x)) H
def spArrAt : Sp := fun vs H Q _ => ∃ (c x : Int) (a : Addr) (rs : List Rn), vs = [.int c, .ref a, .int x] ∧ RnsT H a rs ∧ Pm.Ok c rs ∧ c ≤ 10 ^ 30 ∧ rs.length ≤ 60000 ∧ (∀ r ∈ rs, Fit (r.2.1 - x)) ∧ ∀ H', Same H H' → Q (.int (Pm.F c rs x)) H'
theorem ok_mono {c : Int} {rs : List Rn} (ok : Pm.Ok c rs) {i j : Nat} {a b : Rn} (hi : rs[i]? = some a) (hj : rs[j]? = some b) (h : i < j) : a.2.1 < b.2.1 := by
  obtain ⟨h1, e1⟩ := List.getElem?_eq_some_iff.mp hi
  obtain ⟨h2, e2⟩ := List.getElem?_eq_some_iff.mp hj
  have g := List.pairwise_iff_getElem.mp ok.pw i j h1 h2 h
  rw [e1, e2] at g
  have := ok.fl b (List.mem_of_getElem? hj)
  unfold Pm.GoesOn at g; omega
theorem split_at {α : Type} {l : List α} {i : Nat} {x : α} (h : l[i]? = some x) : l = l.take i ++ x :: l.drop (i + 1) ∧ (l.take i).length = i := by
  obtain ⟨h1, e⟩ := List.getElem?_eq_some_iff.mp h
  refine ⟨?_, by rw [List.length_take]; omega⟩
  rw [← e, ← List.drop_eq_getElem_cons h1, List.take_append_drop]
section
variable {P : Program} {w : World} {K : PySem.W.Frag} {mg : Str → Option Value} {base : Heap} {tC : Tok}
theorem ok_arrW {f : Addr} {fd : FuncData} (B : Blt mg tC) (Darrival_by_run : Def K mg "arrival_by_run" s_arrival_by_run ["run", "start"] f fd) : FnOk P w K mg base CX0 1 f fd ["run", "start"] spArrW := by
  refine Darrival_by_run.F.ok scarrival_by_run (fun vs H Q E h => ?_) (fun cdv A outer s H vs Q E hr h => ⟨_, (pss_cons (ps_asg (pv 0) (pg_tup rfl (pgs_cons (pg_name (i := 2) scarrival_by_run.nd rfl (Or.inl rfl)) (pgs_cons (pg_name (i := 3) scarrival_by_run.nd rfl (Or.inl rfl)) (pgs_cons (pg_name (i := 4) scarrival_by_run.nd rfl (Or.inl rfl)) pgs_nil)))))
  (pss_one (ps_ret (pe_op op_add (pv 4) (pe_callB (call_max2 rfl) (by rfl) B.n_max (by decide +kernel) (pa_cons pe_int (pa_cons (pe_op op_sub (pv 1) (pv 2)) pa_nil))))))), ?_⟩)
  · obtain ⟨y, x, r, rfl, _⟩ := h; rfl
  · obtain ⟨y, x, r, rfl, ⟨b, rfl, hb⟩, q⟩ := h
    refine ⟨_, rfl, b, _, rfl, SqT.of hb, rfl, _, _, rfl, _, _, rfl, _, _, rfl, rfl, ?_⟩
    refine ⟨_, rfl, _, rfl, _, rfl, _, _, rfl, rfl, _, _, rfl, ?_⟩
    exact ⟨_, _, rfl, rfl, q⟩
theorem ok_place {f : Addr} {fd : FuncData} (B : Blt mg tC) (Dplace_of : Def K mg "place_of" s_place_of ["cycle", "runs", "start"] f fd) : FnOk P w K mg base CX0 1 f fd ["cycle", "runs", "start"] spPlace := by
  refine Dplace_of.F.ok scplace_of (fun vs H Q E h => ?_) (fun cdv A outer s H vs Q E hr h => ⟨_, (pss_cons (ps_set (i := 3) scplace_of.nd rfl (Or.inl rfl) (pe_un un_neg (pe_op op_mulW (pe_op op_fdivW (pe_op op_sub (pe_ix ix_tup (pe_ix ix_tup (pv 1) (pe_un un_neg pe_int) (fun _ _ => rfl)) pe_int (fun _ _ => rfl)) (pv 2)) (pv 0)) (pv 0))))
  (pss_cons (ps_par (i := 4) (j := 5) rfl scplace_of.nd rfl rfl (by decide) rfl rfl (pa_cons pe_int (pa_cons (pe_op op_sub (pe_callB call_len_seq (by rfl) B.len PySem.boot_len (pa_cons (pv 1) pa_nil)) pe_int) pa_nil)) (by rfl))
  (pss_cons (ps_while PassesOwn.never (pt_cmpR op_lt (pv 4) (pv 5) (nomark _))
   (pss_cons (ps_set (i := 6) scplace_of.nd rfl (Or.inl rfl) (pe_op op_fdivW (pe_op op_add (pv 4) (pv 5)) pe_int))
  (pss_one (ps_if (pt_cmpR op_lt (pe_op op_add (pe_ix ix_tup (pe_ix ix_tup (pv 1) (pv 6) (fun _ _ => rfl)) pe_int (fun _ _ => rfl)) (pv 3)) (pv 2) (nomark _))
   (pss_one (ps_set (i := 4) scplace_of.nd rfl (Or.inl rfl) (pe_op op_add (pv 6) pe_int)))
   (pss_one (ps_set (i := 5) scplace_of.nd rfl (Or.inl rfl) (pv 6)))))))
  (pss_one (ps_ret (pe_tup (pa_cons (pv 4) (pa_cons (pv 3) pa_nil)))))))), ?_⟩)
  · obtain ⟨c, x, a, rs, rfl, _⟩ := h; rfl
  · obtain ⟨c, x, a, rs, rfl, ⟨xs, ha, hP⟩, ok, c30, hl, hf, q⟩ := h
    have c1 := ok.c1
    have lx := paired_len hP
    obtain ⟨pre, l, rfl⟩ : ∃ pre l, rs = pre ++ [l] := by
      rcases List.eq_nil_or_concat rs with e | ⟨pre, l, e⟩
      · exact absurd e ok.ne
      · exact ⟨pre, l, by rw [e, List.concat_eq_append]⟩
    obtain ⟨xp, xl, rfl, hPp, b, rfl, hb⟩ := paired_split hP
    have lp := paired_len hPp
    have ml : l ∈ pre ++ [l] := by simp
    refine ⟨_, rfl, _, rfl, a, _, _, _, rfl, rfl, SqT.of ha, atI_last _ _, b, _, _, _, rfl, rfl, SqT.of hb, atI_nat (j := 1) rfl, _, rfl, _, _, rfl, rfl, _, rfl, _, _, rfl, rfl, divF c1 c30, _, rfl, _, _, rfl, rfl, mulF (hf l ml) c1 c30, _, rfl, ?_⟩
    have tr := Pm.turn_rng c l.2.1 x c1
    have mx := ok.lastMax
    have ek : -((l.2.1 - x) / c * c) = -((l.2.1 - x) / c) * c := by rw [Int.neg_mul]
    generalize -((l.2.1 - x) / c) = k at tr ek
    refine ⟨_, rfl, a, _, rfl, .inr (SqT.of ha), _, _, rfl, rfl, _, _, rfl, ?_⟩
    have e5 : ((xp ++ [V.ref b]).length : Int) - 1 = ((pre.length : Nat) : Int) := by rw [List.length_append, lp]; simp
    refine ⟨fun m σ H' => ∃ (lo hi : Nat) (y6 : Option V), m = hi - lo ∧ σ = [some (.int c), some (.ref a), some (.int x), some (.int (k * c)), some (.int (lo : Int)), some (.int (hi : Int)), y6] ∧ H' = H ∧ lo ≤ hi ∧ hi < (pre ++ [l]).length ∧ (∀ j r, j < lo → (pre ++ [l])[j]? = some r → r.2.1 + k * c < x) ∧ (∀ r, (pre ++ [l])[hi]? = some r → x ≤ r.2.1 + k * c),
      ⟨_, 0, pre.length, none, rfl, by rw [← ek, ← e5]; rfl, rfl, Nat.zero_le _, by rw [List.length_append]; exact Nat.lt_succ_self _, fun j r h => by omega, fun r h => ?_⟩, ?_⟩
    · rw [List.getElem?_append_right (Nat.le_refl _), Nat.sub_self] at h
      cases h
      exact tr.2
    rintro m σ H' ⟨lo, hi, y6, rfl, rfl, rfl, h1, h2, hlo, hhi⟩
    refine ⟨_, rfl, _, rfl, _, _, rfl, rfl, ?_⟩
    by_cases z : lo < hi
    · refine ⟨true, congrArg V.bl (decide_eq_true (by omega)), ?_⟩
      refine ⟨fun σ' H2 => ∃ m', m' < hi - lo ∧ ∃ (lo hi : Nat) (y6 : Option V), m' = hi - lo ∧ σ' = [some (.int c), some (.ref a), some (.int x), some (.int (k * c)), some (.int (lo : Int)), some (.int (hi : Int)), y6] ∧ H2 = H' ∧ lo ≤ hi ∧ hi < (pre ++ [l]).length ∧ (∀ j r, j < lo → (pre ++ [l])[j]? = some r → r.2.1 + k * c < x) ∧ (∀ r, (pre ++ [l])[hi]? = some r → x ≤ r.2.1 + k * c), fun _ _ n => n, ?_⟩
      refine ⟨_, rfl, _, rfl, _, _, rfl, rfl, _, _, rfl, rfl, ⟨by decide, by decide +kernel⟩, ?_⟩
      have em : ((lo : Int) + (hi : Int)) / 2 = (((lo + hi) / 2 : Nat) : Int) := by omega
      have hm1 : lo ≤ (lo + hi) / 2 := by omega
      have hm2 : (lo + hi) / 2 < hi := by omega
      generalize (lo + hi) / 2 = md at em hm1 hm2
      obtain ⟨rm, hrm⟩ : ∃ rm, (pre ++ [l])[md]? = some rm := ⟨_, List.getElem?_eq_getElem (by omega)⟩
      obtain ⟨xm, hxm⟩ : ∃ xm, (xp ++ [V.ref b])[md]? = some xm := ⟨_, List.getElem?_eq_getElem (by omega)⟩
      obtain ⟨rm', hrm', bm, rfl, hbm⟩ := paired_at hP hxm
      rw [hrm] at hrm'
      cases hrm'
      have hat : atI (xp ++ [V.ref b]) (((lo : Int) + (hi : Int)) / 2) = some (V.ref bm) := by rw [em]; exact atI_nat hxm
      refine ⟨_, rfl, _, rfl, a, _, _, _, rfl, rfl, SqT.of ha, hat, bm, _, _, _, rfl, rfl, SqT.of hbm, atI_nat (j := 1) rfl, _, rfl, _, _, rfl, rfl, _, rfl, _, _, rfl, rfl, _, rfl, ?_⟩
      by_cases y : rm.2.1 + k * c < x
      · refine iteY y ?_
        refine ⟨_, rfl, _, _, rfl, rfl, hi - (md + 1), by omega, md + 1, hi, some (.int (((lo : Int) + (hi : Int)) / 2)), rfl, ?_, rfl, by omega, h2, fun j r hj hr => ?_, hhi⟩
        · show [some (V.int c), some (V.ref a), some (V.int x), some (V.int (k * c)), some (V.int (((lo : Int) + (hi : Int)) / 2 + 1)), some (V.int hi), some (V.int (((lo : Int) + (hi : Int)) / 2))] = _
          rw [em]; rfl
        · by_cases e : j = md
          · subst e; rw [hrm] at hr; cases hr; exact y
          · have := ok_mono ok hr hrm (by omega)
            omega
      · refine iteN y ?_
        refine ⟨_, rfl, md - lo, by omega, lo, md, some (.int (((lo : Int) + (hi : Int)) / 2)), rfl, ?_, rfl, hm1, by omega, hlo, fun r hr => ?_⟩
        · show [some (V.int c), some (V.ref a), some (V.int x), some (V.int (k * c)), some (V.int lo), some (V.int (((lo : Int) + (hi : Int)) / 2)), some (V.int (((lo : Int) + (hi : Int)) / 2))] = _
          rw [em]
        · rw [hrm] at hr; cases hr; omega
    · refine ⟨false, congrArg V.bl (decide_eq_false (by omega)), ?_⟩
      have e0 : lo = hi := by omega
      subst e0
      obtain ⟨r, hr⟩ : ∃ r, (pre ++ [l])[lo]? = some r := ⟨_, List.getElem?_eq_getElem h2⟩
      obtain ⟨sp, sl⟩ := split_at hr
      refine ⟨_, rfl, _, rfl, (by show 2 ≤ sizeLine; decide), fun t ht => ?_⟩
      refine q t _ ((pre ++ [l]).take lo) r ((pre ++ [l]).drop (lo + 1)) k (Same.new ht) sp (by rw [upd_same, sl]) (fun r' hr' => ?_) (hhi r hr) fun r' hr' => ?_
      · obtain ⟨j, hj⟩ := List.mem_iff_getElem?.mp hr'
        have lj := (List.getElem?_eq_some_iff.mp hj).1
        rw [List.length_take] at lj
        rw [List.getElem?_take_of_lt (by omega)] at hj
        exact hlo j r' (by omega) hj
      · have := mx r' hr'
        omega
theorem ok_arrAt {f f1 f2 f3 : Addr} {fd fd1 fd2 fd3 : FuncData} (B : Blt mg tC) (Darrival_at : Def K mg "arrival_at" s_arrival_at ["cycle", "runs", "start"] f fd) (Dplace_of : Def K mg "place_of" s_place_of ["cycle", "runs", "start"] f1 fd1) (Darrival_by_run : Def K mg "arrival_by_run" s_arrival_by_run ["run", "start"] f2 fd2) (Dmoved : Def K mg "moved" s_moved ["run", "ticks"] f3 fd3) : FnOk P w K mg base CX0 2 f fd ["cycle", "runs", "start"] spArrAt := by
  have Gplace_of := ok_place (P := P) (w := w) (base := base) B Dplace_of
  have Garrival_by_run := ok_arrW (P := P) (w := w) (base := base) B Darrival_by_run
  have Gmoved := ok_moved (P := P) (w := w) (base := base) B Dmoved
  refine Darrival_at.F.ok scarrival_at (fun vs H Q E h => ?_) (fun cdv A outer s H vs Q E hr h => ⟨_, (pss_cons (ps_asg (pe_call Gplace_of (hr.mono (by decide)) (by rfl) Dplace_of.g Dplace_of.F.kp Dplace_of.b .nil pass0 (pa_cons (pv 0) (pa_cons (pv 1) (pa_cons (pv 2) pa_nil)))) (pg_tup rfl (pgs_cons (pg_name (i := 3) scarrival_at.nd rfl (Or.inl rfl)) (pgs_cons (pg_name (i := 4) scarrival_at.nd rfl (Or.inl rfl)) pgs_nil))))
  (pss_one (ps_ret (pe_call Garrival_by_run (hr.mono (by decide)) (by rfl) Darrival_by_run.g Darrival_by_run.F.kp Darrival_by_run.b .nil pass0 (pa_cons (pe_call Gmoved (hr.mono (by decide)) (by rfl) Dmoved.g Dmoved.F.kp Dmoved.b .nil pass0 (pa_cons (pe_ix ix_tup (pv 1) (pv 3) (fun _ _ => rfl)) (pa_cons (pv 4) pa_nil))) (pa_cons (pv 2) pa_nil)))))), ?_⟩)
  · obtain ⟨c, x, a, rs, rfl, _⟩ := h; rfl
  · obtain ⟨c, x, a, rs, rfl, hS, ok, c30, hl, hf, q⟩ := h
    refine ⟨_, rfl, _, rfl, _, rfl, c, x, a, rs, rfl, hS, ok, c30, hl, hf, fun t H' pre r post k s1 e ht h1 h2 h3 => ?_⟩
    obtain ⟨xs, ha, hP⟩ := hS.mono s1
    refine ⟨t, _, rfl, SqT.of ht, rfl, _, _, rfl, _, _, rfl, rfl, ?_⟩
    have hr0 : rs[pre.length]? = some r := by rw [e, List.getElem?_append_right (Nat.le_refl _), Nat.sub_self]; rfl
    obtain ⟨xm, hxm⟩ : ∃ xm, xs[pre.length]? = some xm := ⟨_, List.getElem?_eq_getElem (by have := (List.getElem?_eq_some_iff.mp hr0).1; have := paired_len hP; omega)⟩
    obtain ⟨r', hr', b, rfl, hb⟩ := paired_at hP hxm
    rw [hr0] at hr'
    cases hr'
    refine ⟨_, rfl, _, rfl, a, _, _, _, rfl, rfl, SqT.of ha, atI_nat hxm, _, rfl, b, k * c, [r.1, r.2.1, r.2.2], rfl, hb, Nat.le_of_ble_eq_true rfl, fun e2 H2 s2 hn he => ?_⟩
    refine ⟨_, rfl, .ref e2, x, Pm.mv (k * c) r, rfl, ⟨e2, rfl, he⟩, ?_⟩
    have := q H2 (s1.trans s2)
    subst e
    rw [ok.F_at h1 h2 h3] at this
    exact this
end
end Gr

set_option Elab.async false
set_option linter.all false
set_option pp.deepTerms false
set_option pp.maxSteps 3000
set_option maxRecDepth 100000
set_option maxHeartbeats 4000000
set_option exponentiation.threshold 3000
namespace Gr
open PySem PySem.Spec PyProof.Rows L2
open Pm (Rn)
/-! ### the class Passage -/
structure TxtP (K : PySem.W.Frag) (mg : Str → Option Value) (C fI fC : Addr) : Prop where
  cl : Cls K C
  nC : NoAttr K C "cycle"
  nR : NoAttr K C "runs"
  mgC : mg "Passage" = some (.ref C)
  mks : Mk K C fI
  co : StX.CallO K C fC
theorem kcr : ¬ (("cycle" : Str) = "runs") := by decide +kernel
def fldP (c : Int) (a : Addr) : List (Str × V) := putF "runs" (.ref a) (putF "cycle" (.int c) [])
theorem fldP_cycle (c : Int) (a : Addr) : (fldP c a).lookup ("cycle" : Str) = some (.int c) := by
  unfold fldP; rw [lookup_putF, if_neg kcr, lookup_putF, if_pos rfl]
theorem fldP_runs (c : Int) (a : Addr) : (fldP c a).lookup ("runs" : Str) = some (.ref a) := by
  unfold fldP; rw [lookup_putF, if_pos rfl]
/-- a passage at p: its cycle, its runs in the one form; M: how far its arrivals may be -/
structure PasAt (C : Addr) (H : Hp) (p : Addr) (c M : Int) (Z : List Rn) : Prop where
  ob : ∃ dx a, H p = some (.ins C dx (fldP c a)) ∧ RnsT H a Z
  can : Pm.Can c Z
  le : c ≤ 10 ^ 30
  len : Z.length ≤ 60000
  ba : BA M Z
theorem PasAt.mono {C : Addr} {H H' : Hp} {p : Addr} {c M : Int} {Z : List Rn} (s : Same H H') (h : PasAt C H p c M Z) : PasAt C H' p c M Z := by
  obtain ⟨dx, a, h1, h2⟩ := h.ob
  exact ⟨⟨dx, a, s _ _ h1, h2.mono s⟩, h.can, h.le, h.len, h.ba⟩
theorem can_rng {c : Int} {Z : List Rn} (h : Pm.Can c Z) : ∀ r ∈ Z, 0 ≤ r.1 ∧ r.1 < c ∧ r.1 ≤ r.2.1 ∧ r.2.1 < r.1 + c := fun r hr => by
  have fl := h.1.fl r hr
  have rl := h.1.rng_last hr
  have c1 := h.1.c1
  rcases h.2 with ⟨y, rfl⟩ | ⟨g, _⟩
  · rw [List.mem_singleton.mp hr] at fl rl ⊢; simp only at *; omega
  · have := g r hr; omega
def spInitP (C : Addr) : Sp := fun vs H Q _ => ∃ (p dx a : Addr) (c m : Int) (rs : List Rn), vs = [.ref p, .int c, .ref a] ∧ H p = some (.ins C dx []) ∧ RnsT H a rs ∧ Pm.Ok c rs ∧ c ≤ 10 ^ 30 ∧ rs.length ≤ 50000 ∧ BR m rs ∧ m ≤ 10 ^ 200 ∧
  ∀ H' Z, (∀ b o, H b = some o → b ≠ p → H' b = some o) → PasAt C H' p c (2 * m + c) Z → (∀ z y, Pm.G c rs z y ↔ Pm.G c Z z y) → Z.length ≤ rs.length → Q .non H'
def spCallP (C : Addr) : Sp := fun vs H Q _ => ∃ (p : Addr) (c x M : Int) (Z : List Rn), vs = [.ref p, .int x] ∧ PasAt C H p c M Z ∧ -(10 ^ 250) ≤ x ∧ x ≤ 10 ^ 250 ∧ ∀ H', Same H H' → Q (.int (Pm.F c Z x)) H'
def spTravel (C : Addr) : Sp := fun vs H Q _ => ∃ (c t m : Int), vs = [.int c, .int t] ∧ 1 ≤ c ∧ c ≤ 10 ^ 30 ∧ c ≤ m ∧ -m ≤ t ∧ t ≤ m ∧ m ≤ 10 ^ 200 ∧ ∀ p H' Z, Same H H' → PasAt C H' p c (2 * m + c) Z → (∀ z y, Pm.G c [(0, c - 1, t)] z y ↔ Pm.G c Z z y) → Q (.ref p) H'
def spNumber : Sp := fun vs H Q _ => ∃ c : Int, vs = [.int c] ∧ Q .non H
theorem ok_one {c t : Int} (c1 : 1 ≤ c) : Pm.Ok c [(0, c - 1, t)] :=
  ⟨c1, by simp, fun r hr => by rw [List.mem_singleton.mp hr]; simp only; omega, List.pairwise_singleton _ _, fun r hr s hs => by
    rw [List.mem_singleton.mp hr, List.mem_singleton.mp hs]; unfold Pm.GoesOn Pm.la; simp only [Pm.mv1, Pm.mv2, Pm.mv3]; omega⟩
theorem same_make {C : Addr} {H : Hp} {x dx : Addr} (hx : H x = none) (hdx : H dx = none) : Same H (upd (upd H dx (.own x)) x (.ins C dx [])) := fun b o e => by
  rw [upd_ne (ne_of_none e hx), upd_ne (ne_of_none e hdx)]; exact e
/-- what stood ahead of the making stands behind it -/
theorem made {H H2 H3 H' : Hp} {x : Addr} (hx : H2 x = none) (s : Same H H3) (s2 : Same H H2) (kp : ∀ b o, H3 b = some o → b ≠ x → H' b = some o) : Same H H' := fun b o e => kp b o (s b o e) (ne_of_none (s2 b o e) hx)
section
variable {P : Program} {w : World} {K : PySem.W.Frag} {mg : Str → Option Value} {base : Heap} {tC : Tok}
theorem ok_initP {C fI fC f1 f2 f3 f4 f5 f6 f7 f8 f9 f10 : Addr} {fdI fd1 fd2 fd3 fd4 fd5 fd6 fd7 fd8 fd9 fd10 : FuncData} (B : Blt mg tC) (TP : TxtP K mg C fI fC) (DP_init : DefM K "__init__" "Passage.__init__" s_P_init ["self", "cycle", "runs"] fI fdI) (Dcheck_cycle : Def K mg "check_cycle" s_check_cycle ["cycle"] f1 fd1) (Dis_whole : Def K mg "is_whole" s_is_whole ["value"] f2 fd2) (Dare_runs : Def K mg "are_runs" s_are_runs ["cycle", "value"] f3 fd3) (Dis_run : Def K mg "is_run" s_is_run ["value"] f4 fd4) (Dgoes_on : Def K mg "goes_on" s_goes_on ["before", "run"] f5 fd5) (Dlast_arrival : Def K mg "last_arrival" s_last_arrival ["run"] f6 fd6) (Drun_pairs : Def K mg "run_pairs" s_run_pairs ["cycle", "runs"] f7 fd7) (Dmoved : Def K mg "moved" s_moved ["run", "ticks"] f8 fd8) (Dlongest_runs : Def K mg "longest_runs" s_longest_runs ["cycle", "runs"] f9 fd9) (Djoins : Def K mg "joins" s_joins ["before", "run"] f10 fd10) {f11 : Addr} {fd11 : FuncData} (Dascending : Def K mg "ascending" s_ascending ["cycle", "rows"] f11 fd11) : FnOk P w K mg base CX0 4 fI fdI ["self", "cycle", "runs"] (spInitP C) := by
  have Gcheck_cycle := ok_check_cycle (P := P) (w := w) (base := base) B Dcheck_cycle Dis_whole
  have Gare_runs := ok_are (P := P) (w := w) (base := base) B Dare_runs Dis_run Dis_whole Dgoes_on Dlast_arrival Drun_pairs Dmoved
  have Glongest_runs := ok_longest (P := P) (w := w) (base := base) B Dlongest_runs Djoins Dlast_arrival Dmoved Dascending
  refine DP_init.F.ok scP_init (fun vs H Q E h => ?_) (fun cdv A outer s H vs Q E hr h => ⟨_, (pss_cons (ps_expr (pe_call Gcheck_cycle (hr.mono (by decide)) (by rfl) Dcheck_cycle.g Dcheck_cycle.F.kp Dcheck_cycle.b .nil pass0 (pa_cons (pv 1) pa_nil)))
  (pss_cons (ps_if (pt_not (pt_val (pe_call Gare_runs (hr.mono (by decide)) (by rfl) Dare_runs.g Dare_runs.F.kp Dare_runs.b .nil pass0 (pa_cons (pv 1) (pa_cons (pv 2) pa_nil)))))
   (pss_one ps_never)
   pss_nil)
  (pss_cons (ps_fld (pv 0) (pv 1) rfl)
  (pss_one (ps_fld (pv 0) (pe_call Glongest_runs (hr.mono (by decide)) (by rfl) Dlongest_runs.g Dlongest_runs.F.kp Dlongest_runs.b .nil pass0 (pa_cons (pv 1) (pa_cons (pv 2) pa_nil))) rfl))))), ?_⟩)
  · obtain ⟨p, dx, a, c, m, rs, rfl, _⟩ := h; rfl
  · obtain ⟨p, dx, a, c, m, rs, rfl, hp, hS, ok, c30, hl, hB, hm, q⟩ := h
    refine ⟨_, rfl, c, rfl, ok.c1, c30, ?_⟩
    refine ⟨_, rfl, _, rfl, c, a, rs, rfl, hS, ok, hl, fun H1 s1 => ⟨_, rfl, iteF ?_⟩⟩
    have hp1 := s1 _ _ hp
    refine ⟨_, rfl, _, rfl, p, C, dx, [], rfl, hp1, TP.cl, TP.nC, (by show 0 < 1000; decide), ?_⟩
    have hS1 := hS.mono s1
    have sU : ∀ b o, H1 b = some o → b ≠ p → (upd H1 p (.ins C dx (putF "cycle" (.int c) []))) b = some o := fun b o e h => by rw [upd_ne h]; exact e
    have hS2 : RnsT (upd H1 p (.ins C dx (putF "cycle" (.int c) []))) a rs := by
      obtain ⟨xs, h1, h2⟩ := hS1
      exact ⟨xs, sU _ _ h1 (ne_of h1 hp1 (fun z => nomatch z)), L2.Paired.mapP h2 fun _ _ ⟨b, e, h⟩ => ⟨b, e, sU _ _ h (ne_of h hp1 (fun z => nomatch z))⟩⟩
    refine ⟨_, rfl, _, rfl, c, m, a, rs, rfl, hS2, ok, c30, hl, hB, hm, fun u H2 Z s2 hZ can g lz ba => ?_⟩
    refine ⟨_, rfl, p, C, dx, _, rfl, s2 _ _ upd_same, TP.cl, TP.nR, (by show 1 < 1000; decide), ?_⟩
    have hp2 := s2 _ _ (upd_same (H := H1) (a := p) (o := .ins C dx (putF "cycle" (.int c) [])))
    refine q _ Z (fun b o e hb => ?_) ⟨⟨dx, u, upd_same, ?_⟩, can, c30, by omega, ba⟩ g lz
    · rw [upd_ne hb]; exact s2 _ _ (sU _ _ (s1 _ _ e) hb)
    · obtain ⟨xs, h1, h2⟩ := hZ
      exact ⟨xs, by rw [upd_ne (ne_of h1 hp2 (fun z => nomatch z))]; exact h1, L2.Paired.mapP h2 fun _ _ ⟨b, e, h⟩ => ⟨b, e, by rw [upd_ne (ne_of h hp2 (fun z => nomatch z))]; exact h⟩⟩
theorem ok_callP {C fI fC f1 f2 f3 f4 f5 f6 : Addr} {fdC fd1 fd2 fd3 fd4 fd5 fd6 : FuncData} (B : Blt mg tC) (TP : TxtP K mg C fI fC) (DP_call : DefM K "__call__" "Passage.__call__" s_P_call ["self", "start"] fC fdC) (Dcheck_moment : Def K mg "check_moment" s_check_moment ["moment"] f1 fd1) (Dis_whole : Def K mg "is_whole" s_is_whole ["value"] f2 fd2) (Darrival_at : Def K mg "arrival_at" s_arrival_at ["cycle", "runs", "start"] f3 fd3) (Dplace_of : Def K mg "place_of" s_place_of ["cycle", "runs", "start"] f4 fd4) (Darrival_by_run : Def K mg "arrival_by_run" s_arrival_by_run ["run", "start"] f5 fd5) (Dmoved : Def K mg "moved" s_moved ["run", "ticks"] f6 fd6) : FnOk P w K mg base CX0 3 fC fdC ["self", "start"] (spCallP C) := by
  have Gcheck_moment := ok_check_moment (P := P) (w := w) (base := base) B Dcheck_moment Dis_whole
  have Garrival_at := ok_arrAt (P := P) (w := w) (base := base) B Darrival_at Dplace_of Darrival_by_run Dmoved
  refine DP_call.F.ok scP_call (fun vs H Q E h => ?_) (fun cdv A outer s H vs Q E hr h => ⟨_, (pss_cons (ps_expr (pe_call Gcheck_moment (hr.mono (by decide)) (by rfl) Dcheck_moment.g Dcheck_moment.F.kp Dcheck_moment.b .nil pass0 (pa_cons (pv 1) pa_nil)))
  (pss_one (ps_ret (pe_call Garrival_at (hr.mono (by decide)) (by rfl) Darrival_at.g Darrival_at.F.kp Darrival_at.b .nil pass0 (pa_cons (pe_fld (pv 0) rfl) (pa_cons (pe_fld (pv 0) rfl) (pa_cons (pv 1) pa_nil))))))), ?_⟩)
  · obtain ⟨p, c, x, M, Z, rfl, _⟩ := h; rfl
  · obtain ⟨p, c, x, M, Z, rfl, hP, x0, x1, q⟩ := h
    obtain ⟨dx, a, hp, hS⟩ := hP.ob
    refine ⟨_, rfl, x, rfl, ?_⟩
    refine ⟨_, rfl, p, C, dx, _, _, rfl, hp, TP.cl, TP.nC, fldP_cycle _ _, _, rfl, p, C, dx, _, _, rfl, hp, TP.cl, TP.nR, fldP_runs _ _, _, rfl, c, x, a, Z, rfl, hS, hP.can.1, hP.le, hP.len, fun r hr => ?_, q⟩
    have := can_rng hP.can r hr
    have h30 := hP.le
    have e1 : (10 : Int) ^ 30 ≤ 10 ^ 250 := by decide +kernel
    have e2 : 3 * (10 : Int) ^ 250 ≤ 10 ^ 300 := by decide +kernel
    unfold Fit; omega
/-- the promise of a call by its positional values -/
theorem raw_callP {C fC : Addr} {fdC : FuncData} {k : Nat} {ps : List Str} {sp : Sp} (F : FnOk P w K mg base CX0 k fC fdC ps sp) (hb : Binds K fdC ps []) : FnR P w K mg base CX0 k fC sp :=
  (F.raw hb .nil).imp fun vs H Q E h => by rw [List.append_nil]; exact h
end
end Gr

set_option Elab.async false
set_option linter.all false
set_option pp.deepTerms false
set_option pp.maxSteps 3000
set_option maxRecDepth 100000
set_option maxHeartbeats 4000000
set_option exponentiation.threshold 3000
namespace Gr
open PySem PySem.Spec PyProof.Rows L2
open Pm (Rn)
/-! ### the passage of a signal -/
def rowG (g : Int × Int) : Rn := (g.1, g.1 + g.2 - 1, g.1)
theorem ok_rowsG {c : Int} {f : Int → Bool} {A : List (Int × Int)} (c1 : 1 ≤ c) (per : ∀ t, f (t % c) = f t) (h : Canon c f A) (ne : A ≠ []) : Pm.Ok c (A.map rowG) := by
  rcases h with ⟨_, rfl⟩ | ⟨_, pw, mem⟩
  · have e : List.map rowG [(0, c)] = [(0, c - 1, 0)] := by
      show [(0, 0 + c - 1, 0)] = _
      rw [Int.zero_add]
    rw [e]; exact ok_one c1
  · have arc : ∀ g ∈ A, IsArc c f g := fun g hg => (mem g).mp hg
    have lap : ∀ g ∈ A, ∀ t, g.1 ≤ t → t < g.1 + g.2 → f t = true := fun g hg t t0 t1 => by
      have := (arc g hg).2.2.2.2.1 (t - g.1) (by omega) (by omega)
      rwa [show g.1 + (t - g.1) = t by omega] at this
    have off : ∀ g ∈ A, f (g.1 - 1) = false := fun g hg => (arc g hg).2.2.2.1
    refine ⟨c1, fun e => ne (List.map_eq_nil_iff.mp e), fun r hr => ?_, ?_, fun r hr s hs => ?_⟩
    · obtain ⟨g, hg, rfl⟩ := List.mem_map.mp hr
      have := (arc g hg).2.2.1
      show g.1 ≤ g.1 + g.2 - 1
      omega
    · rw [List.pairwise_map]
      refine pw.imp_of_mem fun {a b} ha hb lt => ?_
      have : a.1 + a.2 - 1 < b.1 := Decidable.byContradiction fun z => by
        have h1 := lap a ha (b.1 - 1) (by omega) (by omega)
        rw [off b hb] at h1; cases h1
      unfold Pm.GoesOn Pm.la rowG; simp only; omega
    · obtain ⟨a, ha, rfl⟩ := List.mem_map.mp hr
      obtain ⟨b, hb, rfl⟩ := List.mem_map.mp hs
      have ga := arc a ha
      have gb := arc b hb
      have : a.1 + a.2 - 1 - c < b.1 := Decidable.byContradiction fun z => by
        have h1 := lap a ha (b.1 - 1 + c) (by have := ga.2.1; have := gb.1; omega) (by omega)
        rw [per_add per, off b hb] at h1; cases h1
      unfold Pm.GoesOn rowG; simp only [Pm.mv2, Pm.la_mv]; unfold Pm.la; simp only; omega
theorem G_rowsG {c : Int} {A : List (Int × Int)} (c1 : 1 ≤ c) (hA : ∀ g ∈ A, 1 ≤ g.2 ∧ g.2 ≤ c) (z y : Int) : Pm.G c (A.map rowG) z y ↔ y = z ∧ lit c A z = true := by
  constructor
  · rintro ⟨r, hr, k, h1, h2, rfl⟩
    obtain ⟨g, hg, rfl⟩ := List.mem_map.mp hr
    unfold rowG at *
    simp only at *
    refine ⟨by omega, lit_iff.mpr ⟨g, hg, ?_⟩⟩
    have := hA g hg
    have e : z - g.1 = (z - g.1 - k * c) + c * k := by rw [Int.mul_comm c k]; omega
    rw [e, Int.add_mul_emod_self_left, Int.emod_eq_of_lt (by omega) (by omega)]
    omega
  · rintro ⟨rfl, h⟩
    obtain ⟨g, hg, hlt⟩ := lit_iff.mp h
    have e := Int.emod_add_mul_ediv (y - g.1) c
    have r0 := Int.emod_nonneg (y - g.1) (show c ≠ 0 by omega)
    have e2 := Int.mul_comm c ((y - g.1) / c)
    refine ⟨rowG g, List.mem_map.mpr ⟨g, hg, rfl⟩, (y - g.1) / c, ?_, ?_, ?_⟩ <;> unfold rowG <;> simp only <;> omega
/-- the arrival behind a signal is the next green moment -/
theorem next_of_G {c x : Int} {A : List (Int × Int)} {Z : List Rn} (ok : Pm.Ok c Z) (g : ∀ z y, Pm.G c Z z y ↔ y = z ∧ lit c A z = true) : NextAt (lit c A) x (Pm.F c Z x) := by
  obtain ⟨z, z0, gz, mz⟩ := ok.F_is x
  obtain ⟨e, h⟩ := (g _ _).mp gz
  rw [e]
  refine ⟨z0, h, fun k k0 k1 => ?_⟩
  cases hk : lit c A k with
  | false => rfl
  | true => exact absurd ((g k k).mpr ⟨rfl, hk⟩) (mz k k k0 k1)
def spPassOf (C : Addr) : Sp := fun vs H Q _ => ∃ (c : Int) (a : Addr) (gs : List (Int × Int)), vs = [.int c, .ref a] ∧ SigT H a gs ∧ OkG c gs ∧ c ≤ 10 ^ 30 ∧ ∀ p H' Z, Same H H' → PasAt C H' p c (3 * c) Z → (∀ z y, Pm.G c Z z y ↔ y = z ∧ lit c gs z = true) → Q (.ref p) H'
section
variable {P : Program} {w : World} {K : PySem.W.Frag} {mg : Str → Option Value} {base : Heap} {tC : Tok}
end
end Gr

set_option Elab.async false
set_option linter.all false
set_option pp.deepTerms false
set_option pp.maxSteps 3000
set_option maxRecDepth 100000
set_option maxHeartbeats 4000000
set_option exponentiation.threshold 3000
namespace Gr
open PySem PySem.Spec PyProof.Rows L2
open Pm (Rn)
/-! ### the draws -/
def Pond (n : Int) (p : Addr) (H : Hp) : Prop := ∃ a b c : Int, H p = some (.lst [.int a, .int b, .int c]) ∧ 0 ≤ b ∧ b < 10 ^ 60 ∧ 0 ≤ c ∧ c ≤ n
theorem Pond.mono {n m : Int} {p : Addr} {H : Hp} (h : Pond n p H) (l : n ≤ m) : Pond m p H := by
  obtain ⟨a, b, c, h1, h2, h3, h4, h5⟩ := h
  exact ⟨a, b, c, h1, h2, h3, h4, by omega⟩
theorem Pond.same {n : Int} {p : Addr} {H H' : Hp} (s : Same H H') (h : Pond n p H) : Pond n p H' := by
  obtain ⟨a, b, c, h1, h2⟩ := h
  exact ⟨a, b, c, s _ _ h1, h2⟩
theorem Pond.some {n : Int} {p : Addr} {H : Hp} (h : Pond n p H) : ∃ xs, H p = some (.lst xs) := by
  obtain ⟨a, b, c, h1, h2⟩ := h
  exact ⟨_, h1⟩
theorem Pond.ne {n : Int} {p : Addr} {H : Hp} (h : Pond n p H) : H p ≠ none := by
  obtain ⟨xs, h⟩ := h.some
  rw [h]; exact fun z => nomatch z
theorem Pond.new {n : Int} {p q : Addr} {H : Hp} {o : HO} (h : Pond n p H) (hq : H q = none) : Pond n p (upd H q o) := h.same (Same.new hq)
theorem p200 : ((2 ^ 200 : Nat) : Int) + 10 ^ 20 < ((2 ^ 1000 : Nat) : Int) := by decide +kernel
theorem q42 : (10 : Int) ^ (42 : Int).toNat + 63 ≠ 0 := by decide +kernel
theorem q44 : (10 : Int) ^ (44 : Int).toNat + 31 ≠ 0 := by decide +kernel
theorem p44 : (10 : Int) ^ (44 : Int).toNat + 31 < 10 ^ 60 := by decide +kernel
def spSpring (K : PySem.W.Frag) : Sp := fun vs H Q _ => ∃ (a : Addr) (k : Int) (ns : List Int), vs = [.ref a, .int k] ∧ SqL K H a (ns.map V.int) ∧ 0 ≤ k ∧ k ≤ 100 ∧ ∀ p H', H p = none → Same H H' → Pond 0 p H' → Q (.ref p) H'
def spTake : Sp := fun vs H Q _ => ∃ (p : Addr) (m n : Int), vs = [.ref p, .int m] ∧ Pond n p H ∧ n ≤ 10 ^ 9 ∧ 1 ≤ m ∧ m ≤ 10 ^ 100 ∧ ∀ r H', But p H H' → Pond (n + 1) p H' → 0 ≤ r → r < m → Q (.int r) H'
def spCyc : Sp := fun vs H Q _ => ∃ (p : Addr) (n : Int), vs = [.ref p] ∧ Pond n p H ∧ n ≤ 10 ^ 8 ∧ ∀ c H', But p H H' → Pond (n + 20) p H' → 1 ≤ c → c ≤ 10 ^ 30 → Q (.int c) H'
def spShares : Sp := fun vs H Q _ => ∃ (p : Addr) (n tot : Int) (mN : Nat), vs = [.ref p, .int tot, .int (mN : Int)] ∧ Pond n p H ∧ n ≤ 10 ^ 8 ∧ 0 ≤ tot ∧ tot ≤ 10 ^ 30 ∧ 1 ≤ mN ∧ mN ≤ 1000 ∧ ∀ (L : Addr) (ns : List Int) (H' : Hp), L ≠ p → But p H H' → Pond (n + 5000) p H' → H' L = some (.lst (ns.map V.int)) → ns.length = mN → (∀ x ∈ ns, 0 ≤ x) → ns.sum = tot → Q (.ref L) H'
section
variable {P : Program} {w : World} {K : PySem.W.Frag} {mg : Str → Option Value} {base : Heap} {tC : Tok}
theorem ok_take {f : Addr} {fd : FuncData} (B : Blt mg tC) (Dl_take : Def K mg "_law_take" s_l_take ["_law_spring_here", "_law_many"] f fd) : FnOk P w K mg base CX0 1 f fd ["_law_spring_here", "_law_many"] spTake := by
  refine Dl_take.F.ok scl_take (fun vs H Q E h => ?_) (fun cdv A outer s H vs Q E hr h => ⟨_, (pss_cons (ps_if (pt_cmpR op_gt (pe_ix ix_list (pv 0) pe_int (fun _ _ => rfl)) pe_int (nomark _))
   (pss_cons (ps_set (i := 2) scl_take.nd rfl (Or.inl rfl) (pe_op op_modN (pe_ix ix_list (pv 0) pe_int (fun _ _ => rfl)) (pv 1)))
  (pss_cons (ps_asg (pe_op op_fdivW (pe_ix ix_list (pv 0) pe_int (fun _ _ => rfl)) (pv 1)) (pg_sub (pv 0) pe_int set_list))
  (pss_one (ps_ret (pv 2)))))
   pss_nil)
  (pss_cons (ps_asg (pe_op op_add (pe_ix ix_list (pv 0) pe_int (fun _ _ => rfl)) pe_int) (pg_sub (pv 0) pe_int set_list))
  (pss_cons (ps_set (i := 3) scl_take.nd rfl (Or.inl rfl) (pe_op op_modN (pe_op op_powW (pe_op op_add (pe_ix ix_list (pv 0) pe_int (fun _ _ => rfl)) (pe_op op_mulW pe_int (pe_ix ix_list (pv 0) pe_int (fun _ _ => rfl)))) pe_int) (pe_op op_add (pe_op op_powW pe_int pe_int) pe_int)))
  (pss_cons (ps_set (i := 3) scl_take.nd rfl (Or.inl rfl) (pe_op op_modN (pe_op op_powW (pe_op op_add (pv 3) (pe_op op_mulW pe_int (pe_ix ix_list (pv 0) pe_int (fun _ _ => rfl)))) pe_int) (pe_op op_add (pe_op op_powW pe_int pe_int) pe_int)))
  (pss_one (ps_ret (pe_op op_modN (pe_op op_fdivW (pv 3) pe_int) (pv 1)))))))), ?_⟩)
  · obtain ⟨p, m, n, rfl, _⟩ := h; rfl
  · obtain ⟨p, m, n, rfl, ⟨a, b, c, hp, b0, b1, c0, c1⟩, hn, m1, m2, q⟩ := h
    refine ⟨_, rfl, p, _, _, _, rfl, rfl, SqL.of hp, rfl, _, _, rfl, rfl, _, rfl, ?_⟩
    have dm : CDivW a m := wide_div (b := 1000) (by omega) (draw_ok m1 (by omega)) (by decide) (by decide)
    by_cases ha : 0 < a
    · refine iteY ha ?_
      refine ⟨_, rfl, p, _, _, _, rfl, rfl, SqL.of hp, rfl, _, rfl, _, _, rfl, rfl, (by show m ≠ 0; omega), ?_⟩
      refine ⟨_, rfl, p, _, _, _, rfl, rfl, SqL.of hp, rfl, _, rfl, _, _, rfl, rfl, dm, _, rfl, p, _, _, _, rfl, rfl, hp, rfl, ?_⟩
      refine ⟨_, rfl, q _ _ (But.refl p H).at ⟨a / m, b, c, upd_same, b0, b1, c0, by omega⟩ (fmod_rng m1).1 (fmod_rng m1).2⟩
    · refine iteN ha ?_
      refine ⟨_, rfl, p, _, _, _, rfl, rfl, SqL.of hp, rfl, _, _, rfl, rfl, _, rfl, p, _, _, _, rfl, rfl, hp, rfl, ?_⟩
      have hp2 : (upd H p (.lst ([V.int a, .int b, .int c].set 2 (.int (c + 1))))) p = some (.lst [.int a, .int b, .int (c + 1)]) := upd_same
      refine ⟨_, rfl, p, _, _, _, rfl, rfl, SqL.of hp2, rfl, _, rfl, p, _, _, _, rfl, rfl, SqL.of hp2, rfl, _, _, rfl, rfl, mulc (by decide) (by decide) (by omega) (by omega), _, _, rfl, rfl, ?_⟩
      refine ⟨_, _, rfl, rfl, cube_of (by omega) (by have := e60; have := p200; omega), _, _, rfl, rfl, cp44, _, _, rfl, rfl, _, _, rfl, rfl, q44, ?_⟩
      have r1 := fmod_rng (x := (b + 104395301 * (c + 1)) ^ (3 : Int).toNat) (m := 10 ^ (44 : Int).toNat + 31) (by decide +kernel)
      refine ⟨_, rfl, _, rfl, p, _, _, _, rfl, rfl, SqL.of hp2, rfl, _, _, rfl, rfl, mulc (by decide) (by decide) (by omega) (by omega), _, _, rfl, rfl, ?_⟩
      refine ⟨_, _, rfl, rfl, cube_of (by omega) (by have := e60; have := p200; have := p44; omega), _, _, rfl, rfl, cp42, _, _, rfl, rfl, _, _, rfl, rfl, q42, ?_⟩
      refine ⟨_, rfl, _, _, rfl, rfl, ⟨by decide, by decide +kernel⟩, _, rfl, _, _, rfl, rfl, (by show m ≠ 0; omega), ?_⟩
      exact q _ _ (But.refl p H).at ⟨a, b, c + 1, upd_same, b0, b1, by omega, by omega⟩ (fmod_rng m1).1 (fmod_rng m1).2
theorem ok_spring {f : Addr} {fd : FuncData} (B : Blt mg tC) (Dl_spring : Def K mg "_law_spring" s_l_spring ["_law_script", "_law_k"] f fd) : FnOk P w K mg base CX0 1 f fd ["_law_script", "_law_k"] (spSpring K) := by
  refine Dl_spring.F.ok scl_spring (fun vs H Q E h => ?_) (fun cdv A outer s H vs Q E hr h => ⟨_, (pss_cons (ps_set (i := 2) scl_spring.nd rfl (Or.inl rfl) pe_int)
  (pss_cons (ps_if (pt_cmpR op_lt (pv 1) (pe_callB call_len_seq (by rfl) B.len PySem.boot_len (pa_cons (pv 0) pa_nil)) (nomark _))
   (pss_one (ps_set (i := 2) scl_spring.nd rfl (Or.inl rfl) (pe_ix ix_list (pv 0) (pv 1) (fun _ _ => rfl))))
   pss_nil)
  (pss_one (ps_ret (pe_lst (pa_cons (pe_callB (call_max2 rfl) (by rfl) B.n_max (by decide +kernel) (pa_cons pe_int (pa_cons (pe_op op_sub (pv 2) (pe_op op_powW pe_int pe_int)) pa_nil))) (pa_cons (pe_op op_add (pe_op op_add (pe_op op_mulW (pe_op op_modN (pv 2) (pe_op op_add (pe_op op_powW pe_int pe_int) pe_int)) pe_int) (pe_op op_mulW pe_int (pv 1))) pe_int) (pa_cons pe_int pa_nil)))))))), ?_⟩)
  · obtain ⟨a, k, ns, rfl, _⟩ := h; rfl
  · obtain ⟨a, k, ns, rfl, hS, k0, k1, q⟩ := h
    have cp18 : CPowW 10 18 := ⟨by decide, by decide +kernel⟩
    have cp39 : CPowW 10 39 := ⟨by decide, by decide +kernel⟩
    have e39 : ((10 : Int) ^ (39 : Int).toNat + 7) * 139 + 60101 * 100 + 31 < 10 ^ 60 := by decide +kernel
    have e1 : 1 ≤ (10 : Int) ^ (39 : Int).toNat + 7 := by decide +kernel
    have fin : ∀ z : Int, 0 ≤ z.fmod ((10 : Int) ^ (39 : Int).toNat + 7) * 139 + 60101 * k + 31 ∧ z.fmod ((10 : Int) ^ (39 : Int).toNat + 7) * 139 + 60101 * k + 31 < 10 ^ 60 := fun z => by
      have := fmod_rng (x := z) e1
      omega
    have big : ((10 : Int) ^ (39 : Int).toNat + 7) < ((2 ^ 200 : Nat) : Int) := by decide +kernel
    have cm : ∀ z : Int, CMulW (z.fmod ((10 : Int) ^ (39 : Int).toNat + 7)) 139 := fun z => by
      have := fmod_rng (x := z) e1
      exact wide_mul (a := 200) (b := 40) (natAbs_lt this.1 (by omega)) (by decide) (by decide) (by decide) (by decide)
    refine ⟨_, rfl, _, rfl, a, _, rfl, .inl hS, _, _, rfl, rfl, _, rfl, ?_⟩
    rw [List.length_map]
    by_cases hk : k < (ns.length : Int)
    · refine iteY hk ?_
      obtain ⟨v, _, hv⟩ := pick k0 hk
      refine ⟨_, rfl, _, rfl, a, _, _, _, rfl, rfl, hS, hv, ?_⟩
      refine ⟨_, rfl, _, _, rfl, rfl, cp18, _, _, rfl, rfl, _, _, rfl, _, rfl, _, _, rfl, rfl, cp39, _, _, rfl, rfl, _, _, rfl, rfl, (by show (10 : Int) ^ (39 : Int).toNat + 7 ≠ 0; omega), _, _, rfl, rfl, cm v, _, rfl, _, _, rfl, rfl, mulc (by decide) (by decide) k0 (by omega), _, _, rfl, rfl, _, _, rfl, rfl, (by show 3 ≤ sizeLine; decide), fun p hp => ?_⟩
      exact q p _ hp (Same.new hp) ⟨_, _, _, upd_same, (fin v).1, (fin v).2, by decide, by decide⟩
    · refine iteN hk ?_
      refine ⟨_, rfl, _, _, rfl, rfl, cp18, _, _, rfl, rfl, _, _, rfl, _, rfl, _, _, rfl, rfl, cp39, _, _, rfl, rfl, _, _, rfl, rfl, (by show (10 : Int) ^ (39 : Int).toNat + 7 ≠ 0; omega), _, _, rfl, rfl, cm 0, _, rfl, _, _, rfl, rfl, mulc (by decide) (by decide) k0 (by omega), _, _, rfl, rfl, _, _, rfl, rfl, (by show 3 ≤ sizeLine; decide), fun p hp => ?_⟩
      exact q p _ hp (Same.new hp) ⟨_, _, _, upd_same, (fin 0).1, (fin 0).2, by decide, by decide⟩
theorem ok_cycle {f f1 : Addr} {fd fd1 : FuncData} (B : Blt mg tC) (Dl_cycle : Def K mg "_law_cycle" s_l_cycle ["_law_spring_here"] f fd) (Dl_take : Def K mg "_law_take" s_l_take ["_law_spring_here", "_law_many"] f1 fd1) : FnOk P w K mg base CX0 2 f fd ["_law_spring_here"] spCyc := by
  have Gl_take := ok_take (P := P) (w := w) (base := base) B Dl_take
  refine Dl_cycle.F.ok scl_cycle (fun vs H Q E h => ?_) (fun cdv A outer s H vs Q E hr h => ⟨_, (pss_cons (ps_set (i := 1) scl_cycle.nd rfl (Or.inl rfl) (pe_lst (pa_cons (pe_op op_add pe_int (pe_call Gl_take (hr.mono (by decide)) (by rfl) Dl_take.g Dl_take.F.kp Dl_take.b .nil pass0 (pa_cons (pv 0) (pa_cons pe_int pa_nil)))) (pa_cons (pe_op op_add pe_int (pe_call Gl_take (hr.mono (by decide)) (by rfl) Dl_take.g Dl_take.F.kp Dl_take.b .nil pass0 (pa_cons (pv 0) (pa_cons pe_int pa_nil)))) (pa_cons (pe_op op_add pe_int (pe_call Gl_take (hr.mono (by decide)) (by rfl) Dl_take.g Dl_take.F.kp Dl_take.b .nil pass0 (pa_cons (pv 0) (pa_cons (pe_op op_powW pe_int pe_int) pa_nil)))) (pa_cons (pe_op op_powW pe_int pe_int) pa_nil))))))
  (pss_cons (ps_expr (pe_bm PySem.F.plainAttrs_list PySem.F.slot_list_append PySem.F.type_list_append mt_append (pv 1) (pa_cons (pe_op op_sub (pe_op op_powW pe_int pe_int) (pe_call Gl_take (hr.mono (by decide)) (by rfl) Dl_take.g Dl_take.F.kp Dl_take.b .nil pass0 (pa_cons (pv 0) (pa_cons (pe_op op_sub (pe_op op_powW pe_int pe_int) (pe_op op_powW pe_int pe_int)) pa_nil)))) pa_nil)))
  (pss_one (ps_ret (pe_ix ix_list (pv 1) (pe_call Gl_take (hr.mono (by decide)) (by rfl) Dl_take.g Dl_take.F.kp Dl_take.b .nil pass0 (pa_cons (pv 0) (pa_cons pe_int pa_nil))) (fun _ _ => rfl)))))), ?_⟩)
  · obtain ⟨p, n, rfl, _⟩ := h; rfl
  · obtain ⟨p, n, rfl, hP, hn, q⟩ := h
    have cp4 : CPowW 10 4 := ⟨by decide, by decide +kernel⟩
    have cp30 : CPowW 10 30 := ⟨by decide, by decide +kernel⟩
    have e30 : (10 : Int) ^ (30 : Int).toNat = 10 ^ 30 := rfl
    have e4 : (10 : Int) ^ (4 : Int).toNat = 10 ^ 4 := rfl
    refine ⟨_, rfl, p, 6, n, rfl, hP, by omega, by decide, by decide +kernel, fun r1 H1 b1 pd1 r10 r11 => ⟨_, _, rfl, rfl, ?_⟩⟩
    refine ⟨_, rfl, p, 30, _, rfl, pd1, by omega, by decide, by decide +kernel, fun r2 H2 b2 pd2 r20 r21 => ⟨_, _, rfl, rfl, ?_⟩⟩
    refine ⟨_, rfl, _, _, rfl, rfl, cp4, p, _, _, rfl, pd2, by omega, by decide +kernel, by decide +kernel, fun r3 H3 b3 pd3 r30 r31 => ⟨_, _, rfl, rfl, ?_⟩⟩
    rw [e4] at r31
    refine ⟨_, _, rfl, rfl, cp30, (by show 4 ≤ sizeLine; decide), fun L hL => ?_⟩
    have s1 : But p H H3 := (b1.trans b2).trans b3
    have hLp : L ≠ p := fun z => by rw [z] at hL; exact pd3.ne hL
    have big : (10 : Int) ^ (30 : Int).toNat - 10 ^ (4 : Int).toNat ≤ 10 ^ 100 ∧ 1 ≤ (10 : Int) ^ (30 : Int).toNat - 10 ^ (4 : Int).toNat := by decide +kernel
    refine ⟨_, rfl, .inl ⟨rfl, _, SqL.of upd_same⟩, _, _, rfl, rfl, cp30, _, rfl, _, _, rfl, rfl, cp30, _, _, rfl, rfl, cp4, _, _, rfl, rfl, p, _, _, rfl, pd3.new hL, by omega, big.2, big.1, fun r4 H4 b4 pd4 r40 r41 => ⟨_, _, rfl, rfl, ?_⟩⟩
    have hL4 := b4 L _ hLp upd_same
    have hL0 : H L = none := s1.fresh (hP.some.choose_spec) pd3.ne hL
    have b4' : But p H H4 := (s1.new hL).trans b4
    refine ⟨L, _, _, rfl, rfl, hL4, (by show 4 < sizeLine; decide), ?_⟩
    have pd4' : Pond (n + 1 + 1 + 1 + 1) p (upd H4 L (.lst ([V.int (1 + r1), V.int (1 + r2), V.int (41 + r3), V.int (10 ^ (30 : Int).toNat)] ++ [V.int (10 ^ (30 : Int).toNat - r4)]))) := by
      obtain ⟨a, b, c, h1, h2⟩ := pd4
      exact ⟨a, b, c, (upd_ne hLp.symm).trans h1, h2⟩
    refine ⟨_, rfl, _, rfl, p, 5, _, rfl, pd4', by omega, by decide, by decide +kernel, fun r5 H5 b5 pd5 r50 r51 => ?_⟩
    obtain ⟨c, hc, ha⟩ := pick (xs := [1 + r1, 1 + r2, 41 + r3, 10 ^ (30 : Int).toNat, 10 ^ (30 : Int).toNat - r4]) r50 r51
    refine ⟨L, _, _, _, rfl, rfl, SqL.of (b5 L _ hLp upd_same), ha, ?_⟩
    have lim : 1 ≤ c ∧ c ≤ 10 ^ 30 := by
      simp only [List.mem_cons, List.not_mem_nil, or_false] at hc
      rw [e30] at hc r41
      rw [e4] at r41
      omega
    exact q c H5 ((b4'.mut hL0).trans b5) (pd5.mono (by omega)) lim.1 lim.2
theorem cut_lo (xs : List V) (m : Nat) (hm : m ≤ xs.length) : cutV xs (some (m : Int)) none = xs.drop m := by
  unfold cutV
  rw [HT.sIx_nat, HT.sIx_none, Nat.min_eq_left hm, List.take_of_length_le (by rw [List.length_drop]; exact Nat.le_refl _)]
theorem cut_hi (xs : List V) (m : Nat) (hm : m ≤ xs.length) : cutV xs none (some (m : Int)) = xs.take m := by
  unfold cutV
  rw [HT.sIx_nat, HT.sIx_none, Nat.min_eq_left hm]
  simp
theorem sum_nn : ∀ (l : List Int), (∀ x ∈ l, 0 ≤ x) → 0 ≤ l.sum
  | [], _ => by simp
  | x :: l, h => by
    have := sum_nn l fun y hy => h y (List.mem_cons_of_mem _ hy)
    have := h x List.mem_cons_self
    rw [List.sum_cons]; omega
theorem ok_shares {f f1 : Addr} {fd fd1 : FuncData} (B : Blt mg tC) (Dl_shares : Def K mg "_law_shares" s_l_shares ["_law_spring_here", "_law_total", "_law_many"] f fd) (Dl_take : Def K mg "_law_take" s_l_take ["_law_spring_here", "_law_many"] f1 fd1) : FnOk P w K mg base CX0 2 f fd ["_law_spring_here", "_law_total", "_law_many"] spShares := by
  have Gl_take := ok_take (P := P) (w := w) (base := base) B Dl_take
  refine Dl_shares.F.ok scl_shares (fun vs H Q E h => ?_) (fun cdv A outer s H vs Q E hr h => ⟨_, (pss_cons (ps_set (i := 3) scl_shares.nd rfl (Or.inl rfl) (pe_lst pa_nil))
  (pss_cons (ps_for PassesOwn.never rfl (pi_range1 (by rfl) B.range (pa_cons (pe_op op_sub (pv 2) pe_int) pa_nil)) (pg_name (i := 4) scl_shares.nd rfl (Or.inl rfl))
   (pss_cons (ps_expr (pe_bm PySem.F.plainAttrs_list PySem.F.slot_list_append PySem.F.type_list_append mt_append (pv 3) (pa_cons (pe_call Gl_take (hr.mono (by decide)) (by rfl) Dl_take.g Dl_take.F.kp Dl_take.b .nil pass0 (pa_cons (pv 0) (pa_cons (pe_ix ix_list (pe_lst (pa_cons (pe_op op_add (pv 1) pe_int) (pa_cons (pe_op op_add (pe_callB (call_min2 rfl) (by rfl) B.n_min (by decide +kernel) (pa_cons (pv 1) (pa_cons pe_int pa_nil))) pe_int) pa_nil))) (pe_call Gl_take (hr.mono (by decide)) (by rfl) Dl_take.g Dl_take.F.kp Dl_take.b .nil pass0 (pa_cons (pv 0) (pa_cons pe_int pa_nil))) (fun _ _ => rfl)) pa_nil))) pa_nil)))
  (pss_one (ps_set (i := 1) scl_shares.nd rfl (Or.inl rfl) (pe_op op_sub (pv 1) (pe_ix ix_list (pv 3) (pe_un un_neg pe_int) (fun _ _ => rfl)))))))
  (pss_cons (ps_expr (pe_bm PySem.F.plainAttrs_list PySem.F.slot_list_append PySem.F.type_list_append mt_append (pv 3) (pa_cons (pv 1) pa_nil)))
  (pss_cons (ps_set (i := 5) scl_shares.nd rfl (Or.inl rfl) (pe_call Gl_take (hr.mono (by decide)) (by rfl) Dl_take.g Dl_take.F.kp Dl_take.b .nil pass0 (pa_cons (pv 0) (pa_cons (pv 2) pa_nil))))
  (pss_one (ps_ret (pe_op op_cat (pe_slice sl_list (pv 3) (po_some (pv 5)) po_none) (pe_slice sl_list (pv 3) po_none (po_some (pv 5)))))))))), ?_⟩)
  · obtain ⟨p, n, tot, mN, rfl, _⟩ := h; rfl
  · obtain ⟨p, n, tot, mN, rfl, hP, hn, t0, t1, m0, m1, q⟩ := h
    have e30 : (10 : Int) ^ 30 ≤ 10 ^ 100 - 10 := by decide +kernel
    have e3 : (1000 : Int) ≤ 10 ^ 100 := by decide +kernel
    refine ⟨Nat.zero_le _, fun D hD => ?_⟩
    have hDp : D ≠ p := fun z => by rw [z] at hD; exact hP.ne hD
    refine ⟨_, rfl, _, _, rfl, rfl, (mN : Int) - 1, rfl, by omega, by omega, ?_⟩
    refine for_range (lo := 0) (fun i σ H' => ∃ (ns : List Int) (t : Int) (y4 : Option V), σ = [some (.ref p), some (.int t), some (.int (mN : Int)), some (.ref D), y4, none] ∧ But p H H' ∧ Pond (n + 2 * i) p H' ∧ H' D = some (.lst (ns.map V.int)) ∧ ns.length = i ∧ (∀ x ∈ ns, 0 ≤ x) ∧ 0 ≤ t ∧ ns.sum + t = tot)
      ⟨[], tot, none, rfl, (But.refl p H).new hD, (hP.new hD).mono (by omega), upd_same, rfl, fun _ h => (List.not_mem_nil h).elim, t0, by simp⟩ ?_ ?_
    · rintro i σ H' hi ⟨ns, t, y4, rfl, bt, pd, hd, hlen, hns, ht0, hsum⟩
      have s0 : 0 ≤ ns.sum := sum_nn ns hns
      have hmin : 1 ≤ (if (3 : Int) < t then (3 : Int) else t) + 1 ∧ (if (3 : Int) < t then (3 : Int) else t) + 1 ≤ t + 1 := by split <;> omega
      refine ⟨_, rfl, .inl ⟨rfl, _, SqL.of hd⟩, _, rfl, _, rfl, _, _, rfl, rfl, _, rfl, _, _, rfl, _, _, rfl, rfl, (by show 2 ≤ sizeLine; decide), fun Z hZ => ?_⟩
      have hZp : Z ≠ p := fun z => by rw [z] at hZ; exact pd.ne hZ
      refine ⟨_, rfl, p, 2, _, rfl, pd.new hZ, by omega, by decide, by decide +kernel, fun r1 H1 b1 pd1 r10 r11 => ?_⟩
      obtain ⟨v, hv, ha⟩ := pick (xs := [t + 1, (if (3 : Int) < t then (3 : Int) else t) + 1]) r10 r11
      have v1 : 1 ≤ v ∧ v ≤ t + 1 := by
        simp only [List.mem_cons, List.not_mem_nil, or_false] at hv
        omega
      refine ⟨Z, _, _, _, rfl, rfl, SqL.of (b1 Z _ hZp upd_same), ha, p, v, _, rfl, pd1, by omega, v1.1, by omega, fun r2 H2 b2 pd2 r20 r21 => ?_⟩
      have hd2 := b2 D _ hDp (b1 D _ hDp (Same.new hZ _ _ hd))
      refine ⟨D, _, _, rfl, rfl, hd2, by rw [List.length_map]; exact smallL (by omega), ?_⟩
      refine ⟨_, rfl, _, rfl, _, rfl, D, _, _, _, rfl, rfl, SqL.of upd_same, atI_last _ _, _, _, rfl, rfl, ?_⟩
      refine ⟨ns ++ [r2], t - r2, _, rfl, (((bt.new hZ).trans b1).trans b2).mut hD, ?_, ?_, by simp [hlen], ?_, by omega, by simp; omega⟩
      · obtain ⟨a, b, c, h1, h2, h3, h4, h5⟩ := pd2
        exact ⟨a, b, c, (upd_ne hDp.symm).trans h1, h2, h3, h4, by omega⟩
      · rw [upd_same, List.map_append]; rfl
      · intro x hx
        rcases List.mem_append.mp hx with h | h
        · exact hns x h
        · rw [List.mem_singleton.mp h]; exact r20
    · rintro σ H' ⟨ns, t, y4, rfl, bt, pd, hd, hlen, hns, ht0, hsum⟩
      refine ⟨_, rfl, .inl ⟨rfl, _, SqL.of hd⟩, _, rfl, D, _, _, rfl, rfl, hd, by rw [List.length_map]; exact smallL (by omega), ?_⟩
      have pd' : Pond (n + 2 * ((mN - 1 : Int).toNat : Nat)) p (upd H' D (.lst (ns.map V.int ++ [V.int t]))) := by
        obtain ⟨a, b, c, h1, h2⟩ := pd
        exact ⟨a, b, c, (upd_ne hDp.symm).trans h1, h2⟩
      refine ⟨_, rfl, _, rfl, p, _, _, rfl, pd', by omega, by omega, by omega, fun r1 H1 b1 pd1 r10 r11 => ?_⟩
      have hd1 := b1 D _ hDp upd_same
      obtain ⟨k, rfl⟩ := Int.eq_ofNat_of_zero_le r10
      have lx : (ns.map V.int ++ [V.int t]).length = mN := by simp; omega
      refine ⟨_, rfl, _, rfl, _, rfl, ?_⟩
      unfold tNoPart
      refine ⟨D, _, rfl, SqL.of hd1, fun S hS => ?_⟩
      rw [cut_lo _ k (by omega)]
      have hdS := Same.new hS (o := .lst ((ns.map V.int ++ [V.int t]).drop k)) _ _ hd1
      refine ⟨_, rfl, _, rfl, _, rfl, D, _, rfl, SqL.of hdS, fun U hU => ?_⟩
      rw [cut_hi _ k (by omega)]
      refine ⟨S, U, _, _, rfl, rfl, Same.new hU _ _ upd_same, upd_same, ?_, fun W hW => ?_⟩
      · rw [List.length_drop, List.length_take]
        exact Nat.le_of_lt (smallL (by omega))
      · have e : (ns.map V.int ++ [V.int t]).drop k ++ (ns.map V.int ++ [V.int t]).take k = ((ns ++ [t]).drop k ++ (ns ++ [t]).take k).map V.int := by
          rw [List.map_append, List.map_drop, List.map_take, List.map_append]; rfl
        rw [e]
        refine q W _ _ (fun z => by rw [z] at hW; exact ((pd1.new hS).new hU).ne hW) ((((bt.mut hD).trans b1).new hS).new hU |>.new hW) ?_ upd_same ?_ ?_ ?_
        · exact (((pd1.new hS).new hU).new hW).mono (by omega)
        · rw [List.length_append, List.length_drop, List.length_take, List.length_append, List.length_singleton]
          omega
        · intro x hx
          rcases List.mem_append.mp hx with h | h
          · rcases List.mem_append.mp (List.mem_of_mem_drop h) with h | h
            · exact hns x h
            · rw [List.mem_singleton.mp h]; exact ht0
          · rcases List.mem_append.mp (List.mem_of_mem_take h) with h | h
            · exact hns x h
            · rw [List.mem_singleton.mp h]; exact ht0
        · have h1 : ((ns ++ [t]).take k ++ (ns ++ [t]).drop k).sum = tot := by rw [List.take_append_drop]; simpa using hsum
          rw [List.sum_append] at h1 ⊢
          omega
def RowsAt (H : Hp) (L : Addr) (rs : List Rn) : Prop := ∃ xs, H L = some (.lst xs) ∧ Paired (RnAt H) xs rs
def spRows : Sp := fun vs H Q _ => ∃ (p : Addr) (n c : Int) (mN : Nat) (b a : Int), vs = [.ref p, .int c, .int (mN : Int), .int b, .int a] ∧ Pond n p H ∧ n ≤ 10 ^ 7 ∧ 1 ≤ c ∧ c ≤ 10 ^ 30 ∧ 1 ≤ mN ∧ mN ≤ 1000 ∧ -(10 ^ 41) ≤ b ∧ b ≤ 10 ^ 41 ∧ -(10 ^ 41) ≤ a ∧ a ≤ 10 ^ 41 ∧
  ∀ (L : Addr) (rs : List Rn) (H' : Hp), L ≠ p → But p H H' → Pond (n + 20000) p H' → RowsAt H' L rs → Pm.Ok c rs → BR (10 ^ 42) rs → rs.length ≤ mN → Q (.ref L) H'
def spDrawn : Sp := fun vs H Q _ => ∃ (p : Addr) (n c m : Int), vs = [.ref p, .int c, .int m] ∧ Pond n p H ∧ n ≤ 10 ^ 6 ∧ 1 ≤ c ∧ c ≤ 10 ^ 30 ∧ 1 ≤ m ∧ m ≤ 1000 ∧
  ∀ (L : Addr) (rs : List Rn) (H' : Hp), L ≠ p → But p H H' → Pond (n + 20010) p H' → RowsAt H' L rs → Pm.Ok c rs → BR (10 ^ 42) rs → (rs.length : Int) ≤ m → Q (.ref L) H'
theorem drop_sum {l : List Int} {i : Nat} {x : Int} (h : l[i]? = some x) : (l.drop i).sum = x + (l.drop (i + 1)).sum := by
  obtain ⟨hi, e⟩ := List.getElem?_eq_some_iff.mp h
  rw [List.drop_eq_getElem_cons hi, e, List.sum_cons]
theorem get_lt {l : List Int} {i : Nat} (h : i < l.length) : ∃ x, l[i]? = some x := ⟨l[i], by simp [h]⟩
theorem ok_rows {f f1 f2 : Addr} {fd fd1 fd2 : FuncData} (B : Blt mg tC) (Dl_rows : Def K mg "_law_rows" s_l_rows ["_law_spring_here", "_law_cycle_here", "_law_many", "_law_begin", "_law_arrival"] f fd) (Dl_take : Def K mg "_law_take" s_l_take ["_law_spring_here", "_law_many"] f1 fd1) (Dl_shares : Def K mg "_law_shares" s_l_shares ["_law_spring_here", "_law_total", "_law_many"] f2 fd2) : FnOk P w K mg base CX0 3 f fd ["_law_spring_here", "_law_cycle_here", "_law_many", "_law_begin", "_law_arrival"] spRows := by
  have Gl_take := (ok_take (P := P) (w := w) (base := base) B Dl_take).mono (show 1 ≤ 2 by decide)
  have Gl_shares := ok_shares (P := P) (w := w) (base := base) B Dl_shares Dl_take
  refine Dl_rows.F.ok scl_rows (fun vs H Q E h => ?_) (fun cdv A outer s H vs Q E hr h => ⟨_, (pss_cons (ps_par3 (i := 5) (j := 6) (l := 2) rfl scl_rows.nd rfl rfl rfl (by decide) (by decide) (by decide) rfl rfl rfl (pa_cons (pe_lst pa_nil) (pa_cons (pv 1) (pa_cons (pe_callB (call_min2 rfl) (by rfl) B.n_min (by decide +kernel) (pa_cons (pv 2) (pa_cons (pv 1) pa_nil))) pa_nil))) (by rfl))
  (pss_cons (ps_for PassesOwn.never rfl (pi_range1 (by rfl) B.range (pa_cons (pv 2) pa_nil)) (pg_name (i := 7) scl_rows.nd rfl (Or.inl rfl))
   (pss_cons (ps_set (i := 8) scl_rows.nd rfl (Or.inl rfl) (pe_op op_sub (pv 6) (pe_op op_sub (pe_op op_sub (pv 2) (pv 7)) pe_int)))
  (pss_cons (ps_expr (pe_bm PySem.F.plainAttrs_list PySem.F.slot_list_append PySem.F.type_list_append mt_append (pv 5) (pa_cons (pe_op op_add pe_int (pe_call Gl_take (hr.mono (by decide)) (by rfl) Dl_take.g Dl_take.F.kp Dl_take.b .nil pass0 (pa_cons (pv 0) (pa_cons (pe_ix ix_list (pe_lst (pa_cons pe_int (pa_cons (pe_callB (call_min2 rfl) (by rfl) B.n_min (by decide +kernel) (pa_cons (pv 8) (pa_cons pe_int pa_nil))) (pa_cons (pv 8) pa_nil)))) (pe_call Gl_take (hr.mono (by decide)) (by rfl) Dl_take.g Dl_take.F.kp Dl_take.b .nil pass0 (pa_cons (pv 0) (pa_cons pe_int pa_nil))) (fun _ _ => rfl)) pa_nil)))) pa_nil)))
  (pss_one (ps_set (i := 6) scl_rows.nd rfl (Or.inl rfl) (pe_op op_sub (pv 6) (pe_ix ix_list (pv 5) (pe_un un_neg pe_int) (fun _ _ => rfl))))))))
  (pss_cons (ps_par3 (i := 9) (j := 10) (l := 11) rfl scl_rows.nd rfl rfl rfl (by decide) (by decide) (by decide) rfl rfl rfl (pa_cons (pe_call Gl_shares (hr.mono (by decide)) (by rfl) Dl_shares.g Dl_shares.F.kp Dl_shares.b .nil pass0 (pa_cons (pv 0) (pa_cons (pv 6) (pa_cons (pv 2) pa_nil)))) (pa_cons (pe_call Gl_shares (hr.mono (by decide)) (by rfl) Dl_shares.g Dl_shares.F.kp Dl_shares.b .nil pass0 (pa_cons (pv 0) (pa_cons (pv 6) (pa_cons (pv 2) pa_nil)))) (pa_cons (pe_lst pa_nil) pa_nil))) (by rfl))
  (pss_cons (ps_for PassesOwn.never rfl (pi_enum (by rfl) B.n_enumerate (pa_cons (pv 5) pa_nil)) (pg_tup rfl (pgs_cons (pg_name (i := 12) scl_rows.nd rfl (Or.inl rfl)) (pgs_cons (pg_name (i := 13) scl_rows.nd rfl (Or.inl rfl)) pgs_nil)))
   (pss_cons (ps_par (i := 3) (j := 4) rfl scl_rows.nd rfl rfl (by decide) rfl rfl (pa_cons (pe_op op_add (pv 3) (pe_ix ix_list (pv 9) (pv 12) (fun _ _ => rfl))) (pa_cons (pe_op op_add (pv 4) (pe_ix ix_list (pv 10) (pv 12) (fun _ _ => rfl))) pa_nil)) (by rfl))
  (pss_cons (ps_expr (pe_bm PySem.F.plainAttrs_list PySem.F.slot_list_append PySem.F.type_list_append mt_append (pv 11) (pa_cons (pe_tup (pa_cons (pv 3) (pa_cons (pe_op op_sub (pe_op op_add (pv 3) (pv 13)) pe_int) (pa_cons (pv 4) pa_nil)))) pa_nil)))
  (pss_one (ps_par (i := 3) (j := 4) rfl scl_rows.nd rfl rfl (by decide) rfl rfl (pa_cons (pe_op op_add (pv 3) (pv 13)) (pa_cons (pe_op op_add (pv 4) (pv 13)) pa_nil)) (by rfl))))))
  (pss_one (ps_ret (pv 11))))))), ?_⟩)
  · obtain ⟨p, n, c, mN, b, a, rfl, _⟩ := h; rfl
  · obtain ⟨p, n, c, mN, b, a, rfl, hP, hn, c1, c30, m0, m1, b0, b1, a0, a1, q⟩ := h
    refine ⟨Nat.zero_le _, fun D hD => ?_⟩
    have hDp : D ≠ p := fun z => by rw [z] at hD; exact hP.ne hD
    refine ⟨_, rfl, _, rfl, _, rfl, _, _, rfl, _, _, _, rfl, ?_⟩
    obtain ⟨m, hm⟩ : ∃ m : Nat, (if c < (mN : Int) then c else (mN : Int)) = (m : Int) := Int.eq_ofNat_of_zero_le (by split <;> omega)
    have lm : 1 ≤ m ∧ m ≤ mN ∧ (m : Int) ≤ c := by split at hm <;> omega
    rw [hm]
    have e30 : (10 : Int) ^ 30 ≤ 10 ^ 100 - 10 := by decide +kernel
    refine ⟨_, rfl, (m : Int), rfl, by omega, by omega, ?_⟩
    refine for_range (lo := 0) (fun i σ H' => ∃ (zs : List Int) (t : Int) (y7 y8 : Option V), σ = [some (.ref p), some (.int c), some (.int (m : Int)), some (.int b), some (.int a), some (.ref D), some (.int t), y7, y8, none, none, none, none, none] ∧ But p H H' ∧ Pond (n + 2 * i) p H' ∧ H' D = some (.lst (zs.map V.int)) ∧ zs.length = i ∧ (∀ x ∈ zs, 1 ≤ x) ∧ (m : Int) - i ≤ t ∧ zs.sum + t = c)
      ⟨[], c, none, none, rfl, (But.refl p H).new hD, (hP.new hD).mono (by omega), upd_same, rfl, fun _ h => (List.not_mem_nil h).elim, by omega, by simp⟩ ?_ ?_
    · rintro i σ H' hi ⟨zs, t, y7, y8, rfl, bt, pd, hd, hlen, hzs, ht0, hsum⟩
      have s0 : 0 ≤ zs.sum := sum_nn zs fun x hx => by have := hzs x hx; omega
      refine ⟨_, rfl, _, rfl, _, rfl, _, _, rfl, rfl, _, _, rfl, rfl, _, _, rfl, rfl, ?_⟩
      obtain ⟨R, hR⟩ : ∃ R : Int, t - ((m : Int) - (0 + (i : Int)) - 1) = R := ⟨_, rfl⟩
      simp only [hR]
      have R1 : 1 ≤ R ∧ R ≤ c := by omega
      refine ⟨_, rfl, .inl ⟨rfl, _, SqL.of hd⟩, _, rfl, _, rfl, _, _, rfl, _, rfl, (by show 3 ≤ sizeLine; decide), fun Z hZ => ?_⟩
      have hZp : Z ≠ p := fun z => by rw [z] at hZ; exact pd.ne hZ
      refine ⟨_, rfl, p, 3, _, rfl, pd.new hZ, by omega, by decide, by decide +kernel, fun r1 H1 b1 pd1 r10 r11 => ?_⟩
      obtain ⟨v, hv, ha⟩ := pick (xs := [1, (if (3 : Int) < R then (3 : Int) else R), R]) r10 r11
      have v1 : 1 ≤ v ∧ v ≤ R := by
        simp only [List.mem_cons, List.not_mem_nil, or_false] at hv
        split at hv <;> omega
      refine ⟨Z, _, _, _, rfl, rfl, SqL.of (b1 Z _ hZp upd_same), ha, p, v, _, rfl, pd1, by omega, v1.1, by omega, fun r2 H2 b2 pd2 r20 r21 => ⟨_, _, rfl, rfl, ?_⟩⟩
      have hd2 := b2 D _ hDp (b1 D _ hDp (Same.new hZ _ _ hd))
      refine ⟨D, _, _, rfl, rfl, hd2, by rw [List.length_map]; exact smallL (by omega), ?_⟩
      refine ⟨_, rfl, _, rfl, _, rfl, D, _, _, _, rfl, rfl, SqL.of upd_same, atI_last _ _, _, _, rfl, rfl, ?_⟩
      refine ⟨zs ++ [1 + r2], t - (1 + r2), _, _, rfl, (((bt.new hZ).trans b1).trans b2).mut hD, ?_, ?_, by simp [hlen], ?_, by omega, by simp; omega⟩
      · obtain ⟨a, b, c, h1, h2, h3, h4, h5⟩ := pd2
        exact ⟨a, b, c, (upd_ne hDp.symm).trans h1, h2, h3, h4, by omega⟩
      · rw [upd_same, List.map_append]; rfl
      · intro x hx
        rcases List.mem_append.mp hx with h | h
        · exact hzs x h
        · rw [List.mem_singleton.mp h]; omega
    · rintro σ H' ⟨zs, t, y7, y8, rfl, bt, pd, hd, hlen, hzs, ht0, hsum⟩
      have s0 : 0 ≤ zs.sum := sum_nn zs fun x hx => by have := hzs x hx; omega
      have hlen' : zs.length = m := by rw [hlen]; omega
      refine ⟨_, rfl, _, rfl, _, rfl, p, _, t, m, rfl, pd, by omega, by omega, by omega, by omega, by omega, fun La ns1 H1 nLa b1 pd1 hl1 len1 nn1 sum1 => ?_⟩
      refine ⟨_, rfl, _, rfl, _, rfl, p, _, t, m, rfl, pd1, by omega, by omega, by omega, by omega, by omega, fun Lb ns2 H2 nLb b2 pd2 hl2 len2 nn2 sum2 => ⟨Nat.zero_le _, fun F hF => ⟨_, _, _, rfl, ?_⟩⟩⟩
      have hFp : F ≠ p := fun z => by rw [z] at hF; exact pd2.ne hF
      have hD2 := b2 D _ hDp (b1 D _ hDp hd)
      have hl12 := b2 La _ nLa hl1
      have hF0 : H F = none := ((bt.trans b1).trans b2).fresh (hP.some.choose_spec) pd2.ne hF
      have hFD : F ≠ D := fun z => by rw [z, hD2] at hF; cases hF
      have hFa : F ≠ La := fun z => by rw [z, hl12] at hF; cases hF
      have hFb : F ≠ Lb := fun z => by rw [z, hl2] at hF; cases hF
      refine ⟨_, rfl, D, _, rfl, SqL.of (Same.new hF _ _ hD2), ?_⟩
      refine for_it (walk_enum (xs := zs.map V.int)) (fun i σ H' => ∃ (xs : List V) (rs : List Rn) (bb aa : Int) (y7' y8' y12 y13 : Option V), σ = [some (.ref p), some (.int c), some (.int (m : Int)), some (.int bb), some (.int aa), some (.ref D), some (.int t), y7', y8', some (.ref La), some (.ref Lb), some (.ref F), y12, y13] ∧
        But p H H' ∧ Pond (n + 20000) p H' ∧ H' D = some (.lst (zs.map V.int)) ∧ H' La = some (.lst (ns1.map V.int)) ∧ H' Lb = some (.lst (ns2.map V.int)) ∧ H' F = some (.lst xs) ∧ Paired (RnAt H') xs rs ∧ rs.length = i ∧
        bb + (ns1.drop i).sum + (zs.drop i).sum = b + c ∧ aa + (ns2.drop i).sum + (zs.drop i).sum = a + c ∧ b ≤ bb ∧ a ≤ aa ∧ (∀ r ∈ rs, b ≤ r.1 ∧ a ≤ r.2.2 ∧ r.1 ≤ r.2.1 ∧ r.2.1 < bb ∧ Pm.la r < aa) ∧ rs.Pairwise Pm.GoesOn)
        ⟨[], [], b, a, _, _, _, _, rfl, ((bt.trans b1).trans b2).new hF, (pd2.new hF).mono (by omega), Same.new hF _ _ hD2, Same.new hF _ _ hl12, Same.new hF _ _ hl2, upd_same, .nil, rfl, by simp; omega, by simp; omega, by omega, by omega, fun _ h => (List.not_mem_nil h).elim, .nil⟩
        (fun i σ H' _ ⟨xs, rs, bb, aa, y7', y8', y12, y13, _, _, _, h, _⟩ => SqL.of h) ?_ ?_
      · rintro i x σ H' H'' hi ⟨xs, rs, bb, aa, y7', y8', y12, y13, rfl, b3, pd3, hD3, ha3, hb3, hF3, hP3, lrs, eb, ea, bb0, aa0, hrs, pw⟩ ⟨T, x0, x1, rfl, hT, rfl, e0, e1⟩
        obtain rfl := Option.some.inj e0
        rw [List.length_map] at hi
        have smT := Same.new hT (o := .tup [.int (i : Nat), x1])
        obtain ⟨z, hz⟩ := get_lt hi
        obtain rfl : V.int z = x1 := by
          have e1' : (zs.map V.int)[i]? = some x1 := e1
          rw [List.getElem?_map, hz] at e1'; exact Option.some.inj e1'
        obtain ⟨u, hu⟩ := get_lt (l := ns1) (i := i) (by omega)
        obtain ⟨v, hv⟩ := get_lt (l := ns2) (i := i) (by omega)
        have hu' : (ns1.map V.int)[i]? = some (V.int u) := by rw [List.getElem?_map, hu]; rfl
        have hv' : (ns2.map V.int)[i]? = some (V.int v) := by rw [List.getElem?_map, hv]; rfl
        have z1 := hzs z (List.mem_of_getElem? hz)
        have u0 := nn1 u (List.mem_of_getElem? hu)
        have v0 := nn2 v (List.mem_of_getElem? hv)
        rw [drop_sum hu, drop_sum hz] at eb
        rw [drop_sum hv, drop_sum hz] at ea
        have q1 := sum_nn (ns1.drop (i + 1)) fun x hx => nn1 x (List.mem_of_mem_drop hx)
        have q2 := sum_nn (ns2.drop (i + 1)) fun x hx => nn2 x (List.mem_of_mem_drop hx)
        have q3 := sum_nn (zs.drop (i + 1)) fun x hx => by have := hzs x (List.mem_of_mem_drop hx); omega
        refine ⟨T, _, rfl, SqT.of upd_same, rfl, _, _, rfl, _, _, rfl, rfl, ?_⟩
        refine ⟨_, rfl, _, rfl, _, rfl, La, _, _, _, rfl, rfl, SqL.of (smT _ _ ha3), atI_nat (j := i) hu', _, _, rfl, rfl, _, rfl, _, rfl, _, rfl, Lb, _, _, _, rfl, rfl, SqL.of (smT _ _ hb3), atI_nat (j := i) hv', _, _, rfl, rfl, _, _, rfl, ?_⟩
        refine ⟨_, rfl, .inl ⟨rfl, _, SqL.of (smT _ _ hF3)⟩, _, rfl, _, rfl, _, rfl, _, _, rfl, rfl, _, _, rfl, rfl, _, rfl, (by show 3 ≤ sizeLine; decide), fun W hW => ?_⟩
        have smW := Same.new hW (o := .tup [.int (bb + u), .int (bb + u + z - 1), .int (aa + v)])
        have hFW := smW _ _ (smT _ _ hF3)
        refine ⟨F, _, _, rfl, rfl, hFW, smallL (by have := paired_len hP3; omega), ?_⟩
        refine ⟨_, rfl, _, rfl, _, _, rfl, rfl, _, rfl, _, rfl, _, _, rfl, rfl, _, _, rfl, ?_⟩
        refine ⟨_, rs ++ [(bb + u, bb + u + z - 1, aa + v)], bb + u + z, aa + v + z, _, _, _, _, rfl, ((b3.new hT).new hW).mut hF0, ?_, ?_, ?_, ?_, upd_same, ?_, by simp [lrs], by omega, by omega, by omega, by omega, ?_, ?_⟩
        · obtain ⟨a, b, c, h1, h2⟩ := (pd3.new hT).new hW
          exact ⟨a, b, c, (upd_ne hFp.symm).trans h1, h2⟩
        · rw [upd_ne hFD.symm]; exact smW _ _ (smT _ _ hD3)
        · rw [upd_ne hFa.symm]; exact smW _ _ (smT _ _ ha3)
        · rw [upd_ne hFb.symm]; exact smW _ _ (smT _ _ hb3)
        · refine paired_snoc (L2.Paired.mapP hP3 (G := RnAt _) ?_) ⟨W, rfl, ?_⟩
          · rintro x r ⟨b', e', h'⟩; refine ⟨b', e', ?_⟩; rw [upd_ne (ne_of h' hF3 (fun z => nomatch z))]; exact smW _ _ (smT _ _ h')
          · rw [upd_ne (fun z => by rw [z, (smT _ _ hF3)] at hW; cases hW)]; exact upd_same
        · intro r hr
          rcases List.mem_append.mp hr with h | h
          · have := hrs r h; omega
          · rw [List.mem_singleton.mp h]; unfold Pm.la; simp only; omega
        · rw [List.pairwise_append]
          refine ⟨pw, List.pairwise_singleton _ _, fun r hr s hs => ?_⟩
          rw [List.mem_singleton.mp hs]
          have := hrs r hr
          unfold Pm.GoesOn; simp only; omega
      · rintro σ H' ⟨xs, rs, bb, aa, y7', y8', y12, y13, rfl, b3, pd3, hD3, ha3, hb3, hF3, hP3, lrs, eb, ea, bb0, aa0, hrs, pw⟩
        rw [List.length_map, hlen'] at lrs eb ea
        rw [List.drop_of_length_le (by omega), List.drop_of_length_le (by omega)] at eb ea
        simp only [List.sum_nil, Int.add_zero] at eb ea
        refine ⟨_, rfl, q F rs H' hFp b3 pd3 ⟨xs, hF3, hP3⟩ ⟨c1, ?_, fun r hr => (hrs r hr).2.2.1, pw, fun r hr s hs => ?_⟩ (fun r hr => ?_) (by omega)⟩
        · intro e; rw [e] at lrs; simp at lrs; omega
        · have h1 := hrs r hr
          have h2 := hrs s hs
          unfold Pm.GoesOn
          simp only [Pm.mv2, Pm.la_mv]
          omega
        · have h1 := hrs r hr
          have := h1.2.2.2.2
          unfold Pm.la at this
          omega
theorem ok_drawn {f f1 f2 f3 : Addr} {fd fd1 fd2 fd3 : FuncData} (B : Blt mg tC) (Dl_drawn : Def K mg "_law_drawn" s_l_drawn ["_law_spring_here", "_law_cycle_here", "_law_many"] f fd) (Dl_take : Def K mg "_law_take" s_l_take ["_law_spring_here", "_law_many"] f1 fd1) (Dl_shares : Def K mg "_law_shares" s_l_shares ["_law_spring_here", "_law_total", "_law_many"] f2 fd2) (Dl_rows : Def K mg "_law_rows" s_l_rows ["_law_spring_here", "_law_cycle_here", "_law_many", "_law_begin", "_law_arrival"] f3 fd3) : FnOk P w K mg base CX0 4 f fd ["_law_spring_here", "_law_cycle_here", "_law_many"] spDrawn := by
  have Gl_take := (ok_take (P := P) (w := w) (base := base) B Dl_take).mono (show 1 ≤ 3 by decide)
  have Gl_rows := ok_rows (P := P) (w := w) (base := base) B Dl_rows Dl_take Dl_shares
  refine Dl_drawn.F.ok scl_drawn (fun vs H Q E h => ?_) (fun cdv A outer s H vs Q E hr h => ⟨_, (pss_cons (ps_set (i := 3) scl_drawn.nd rfl (Or.inl rfl) (pe_ix ix_list (pe_lst (pa_cons (pe_op op_add (pv 1) pe_int) (pa_cons (pe_op op_powW pe_int pe_int) pa_nil))) (pe_call Gl_take (hr.mono (by decide)) (by rfl) Dl_take.g Dl_take.F.kp Dl_take.b .nil pass0 (pa_cons (pv 0) (pa_cons pe_int pa_nil))) (fun _ _ => rfl)))
  (pss_cons (ps_set (i := 4) scl_drawn.nd rfl (Or.inl rfl) (pe_op op_sub (pe_call Gl_take (hr.mono (by decide)) (by rfl) Dl_take.g Dl_take.F.kp Dl_take.b .nil pass0 (pa_cons (pv 0) (pa_cons (pv 3) pa_nil))) (pe_op op_fdivW (pv 3) pe_int)))
  (pss_cons (ps_set (i := 5) scl_drawn.nd rfl (Or.inl rfl) (pe_ix ix_list (pe_lst (pa_cons (pe_op op_add (pv 4) (pe_call Gl_take (hr.mono (by decide)) (by rfl) Dl_take.g Dl_take.F.kp Dl_take.b .nil pass0 (pa_cons (pv 0) (pa_cons (pe_op op_add (pe_op op_mulW pe_int (pv 1)) pe_int) pa_nil)))) (pa_cons (pe_op op_sub (pe_call Gl_take (hr.mono (by decide)) (by rfl) Dl_take.g Dl_take.F.kp Dl_take.b .nil pass0 (pa_cons (pv 0) (pa_cons (pv 3) pa_nil))) (pe_op op_fdivW (pv 3) pe_int)) pa_nil))) (pe_call Gl_take (hr.mono (by decide)) (by rfl) Dl_take.g Dl_take.F.kp Dl_take.b .nil pass0 (pa_cons (pv 0) (pa_cons pe_int pa_nil))) (fun _ _ => rfl)))
  (pss_one (ps_ret (pe_call Gl_rows (hr.mono (by decide)) (by rfl) Dl_rows.g Dl_rows.F.kp Dl_rows.b .nil pass0 (pa_cons (pv 0) (pa_cons (pv 1) (pa_cons (pe_op op_add pe_int (pe_call Gl_take (hr.mono (by decide)) (by rfl) Dl_take.g Dl_take.F.kp Dl_take.b .nil pass0 (pa_cons (pv 0) (pa_cons (pv 2) pa_nil)))) (pa_cons (pv 4) (pa_cons (pv 5) pa_nil))))))))))), ?_⟩)
  · obtain ⟨p, n, c, m, rfl, _⟩ := h; rfl
  · obtain ⟨p, n, c, m, rfl, hP, hn, c1, c30, m1, m2, q⟩ := h
    have cp40 : CPowW 10 40 := ⟨by decide, by decide +kernel⟩
    have e30 : (10 : Int) ^ 30 ≤ 10 ^ 40 := by decide +kernel
    have e40 : (10 : Int) ^ (40 : Int).toNat = 10 ^ 40 := rfl
    have e100 : (10 : Int) ^ 41 ≤ 10 ^ 100 := by decide +kernel
    have e200 : (10 : Int) ^ 30 < ((2 ^ 110 : Nat) : Int) := by decide +kernel
    refine ⟨_, rfl, _, _, rfl, rfl, _, _, rfl, rfl, cp40, (by show 2 ≤ sizeLine; decide), fun Z hZ => ?_⟩
    have hZp : Z ≠ p := fun z => by rw [z] at hZ; exact hP.ne hZ
    refine ⟨_, rfl, p, 2, _, rfl, hP.new hZ, by omega, by decide, by decide +kernel, fun r1 H1 b1 pd1 r10 r11 => ?_⟩
    obtain ⟨far, hv, ha⟩ := pick (xs := [c + 1, 10 ^ (40 : Int).toNat]) r10 r11
    have f1 : 1 ≤ far ∧ far ≤ 2 * 10 ^ 40 := by
      simp only [List.mem_cons, List.not_mem_nil, or_false] at hv
      rw [e40] at hv
      omega
    have cd : ∀ x : Int, CDivW x 2 := fun x => ⟨by decide, by decide +kernel⟩
    refine ⟨Z, _, _, _, rfl, rfl, SqL.of (b1 Z _ hZp upd_same), ha, ?_⟩
    refine ⟨_, rfl, _, rfl, p, far, _, rfl, pd1, by omega, f1.1, by omega, fun r2 H2 b2 pd2 r20 r21 => ?_⟩
    refine ⟨_, rfl, _, _, rfl, rfl, cd _, _, _, rfl, rfl, ?_⟩
    have m2c : CMulW 2 c := wide_mul (a := 10) (b := 110) (by decide) (natAbs_lt (by omega) (by omega)) (by decide) (by decide) (by decide)
    refine ⟨_, rfl, _, rfl, _, rfl, _, _, rfl, rfl, m2c, _, _, rfl, rfl, p, _, _, rfl, pd2, by omega, by omega, by omega, fun r3 H3 b3 pd3 r30 r31 => ⟨_, _, rfl, rfl, ?_⟩⟩
    refine ⟨_, rfl, _, rfl, p, far, _, rfl, pd3, by omega, f1.1, by omega, fun r4 H4 b4 pd4 r40 r41 => ?_⟩
    refine ⟨_, rfl, _, _, rfl, rfl, cd _, _, _, rfl, rfl, (by show 2 ≤ sizeLine; decide), fun Y hY => ?_⟩
    have hYp : Y ≠ p := fun z => by rw [z] at hY; exact pd4.ne hY
    refine ⟨_, rfl, p, 2, _, rfl, pd4.new hY, by omega, by decide, by decide +kernel, fun r5 H5 b5 pd5 r50 r51 => ?_⟩
    obtain ⟨av, hav, ha2⟩ := pick (xs := [r2 - far / 2 + r3, r4 - far / 2]) r50 r51
    have A1 : -(10 ^ 41) ≤ av ∧ av ≤ 10 ^ 41 := by
      simp only [List.mem_cons, List.not_mem_nil, or_false] at hav
      omega
    refine ⟨Y, _, _, _, rfl, rfl, SqL.of (b5 Y _ hYp upd_same), ha2, ?_⟩
    refine ⟨_, rfl, _, rfl, _, rfl, _, rfl, p, m, _, rfl, pd5, by omega, m1, by omega, fun r6 H6 b6 pd6 r60 r61 => ⟨_, _, rfl, rfl, ?_⟩⟩
    obtain ⟨k, rfl⟩ := Int.eq_ofNat_of_zero_le r60
    refine ⟨_, rfl, _, rfl, p, _, c, k + 1, r2 - far / 2, av, congrArg (fun z => [V.ref p, V.int c, V.int z, V.int (r2 - far / 2), V.int av]) (show (1 : Int) + (k : Int) = ((k + 1 : Nat) : Int) by omega), pd6, by omega, c1, c30, by omega, by omega, by omega, by omega, A1.1, A1.2, fun L rs H7 hL b7 pd7 hR ok br hl => ?_⟩
    exact q L rs H7 hL (((((((((But.refl p H).new hZ).trans b1).trans b2).trans b3).trans b4).new hY).trans b5).trans b6 |>.trans b7) (pd7.mono (by omega)) hR ok br (by omega)
end
end Gr

set_option Elab.async false
set_option linter.all false
set_option maxRecDepth 100000
set_option maxHeartbeats 4000000
set_option exponentiation.threshold 3000
namespace Gr
open PySem PySem.Spec PyProof.Rows L2
open Pm (Rn)
theorem prs_mem {c : Int} {Z : List Rn} (ne : Z ≠ []) : ∀ q ∈ prs c Z, q.2 ∈ Z ∧ ((∃ l ∈ Z, q.1 = Pm.mv (-c) l) ∨ q.1 ∈ Z) := by
  rintro ⟨b, r⟩ h
  obtain ⟨h1, h2⟩ := List.of_mem_zip h
  refine ⟨h2, ?_⟩
  rcases List.mem_cons.mp h1 with e | h
  · refine .inl ⟨Z.getLastD (0, 0, 0), ?_, e⟩
    rcases List.eq_nil_or_concat Z with z | ⟨pre, l, z⟩
    · exact absurd z ne
    · rw [z]; simp
  · exact .inr (List.dropLast_subset _ h)
theorem filt_snoc {α β : Type} {l : List α} {i : Nat} {x : α} {p : α → Bool} {g : α → β} (h : l[i]? = some x) : ((l.take (i + 1)).filter p).map g = ((l.take i).filter p).map g ++ (if p x = true then [g x] else []) := by
  rw [List.take_add_one, h, List.filter_append, List.map_append]
  show _ ++ ((([x] : List α).filter p).map g) = _
  rw [List.filter_cons]
  split <;> simp
theorem pw_get {rs : List Rn} (h : rs.Pairwise Pm.GoesOn) {i j : Nat} {a b : Rn} (hi : rs[i]? = some a) (hj : rs[j]? = some b) (l : i < j) : Pm.GoesOn a b := by
  obtain ⟨h1, e1⟩ := List.getElem?_eq_some_iff.mp hi
  obtain ⟨h2, e2⟩ := List.getElem?_eq_some_iff.mp hj
  rw [← e1, ← e2]
  exact (List.pairwise_iff_getElem.mp h) i j h1 h2 l
theorem prs_cons {c : Int} {rs : List Rn} (ok : Pm.Ok c rs) : ∀ q ∈ prs c rs, ∀ s ∈ rs, ∀ k : Int, s.2.1 + k * c ≤ q.1.2.1 ∨ q.2.1 ≤ s.1 + k * c := by
  rintro ⟨b, r⟩ hq s hs k
  obtain ⟨pre, l, rfl⟩ : ∃ pre l, rs = pre ++ [l] := by
    rcases List.eq_nil_or_concat rs with e | ⟨pre, l, e⟩
    · exact absurd e ok.ne
    · exact ⟨pre, l, by rw [e, List.concat_eq_append]⟩
  unfold prs at hq
  rw [getLastD_snoc, dropLast_snoc] at hq
  obtain ⟨j, hj⟩ := List.mem_iff_getElem?.mp hq
  obtain ⟨j1, j2⟩ := List.getElem?_zip_eq_some.mp hj
  have h1 : (Pm.mv (-c) l :: pre)[j]? = some b := j1
  have h2 : (pre ++ [l])[j]? = some r := j2
  clear j1 j2
  show s.2.1 + k * c ≤ b.2.1 ∨ r.1 ≤ s.1 + k * c
  obtain ⟨i, hi⟩ := List.mem_iff_getElem?.mp hs
  have hr := List.mem_of_getElem? h2
  have fr := ok.fl r hr
  have fs := ok.fl s hs
  have ml : l ∈ pre ++ [l] := by simp
  have fl := ok.fl l ml
  have gl : (pre ++ [l])[pre.length]? = some l := by rw [List.getElem?_append_right (Nat.le_refl _), Nat.sub_self]; rfl
  cases j with
  | zero =>
    cases h1
    show s.2.1 + k * c ≤ l.2.1 + -c ∨ r.1 ≤ s.1 + k * c
    rcases Int.lt_trichotomy k 0 with k0 | k0 | k0
    · left
      by_cases k1 : k = -1
      · subst k1
        have : s.2.1 ≤ l.2.1 := by
          have hl : i < (pre ++ [l]).length := (List.getElem?_eq_some_iff.mp hi).1
          rw [List.length_append, List.length_singleton] at hl
          by_cases e : i = pre.length
          · subst e; rw [gl] at hi; cases hi; exact Int.le_refl _
          · have := (pw_get ok.pw hi gl (by omega)).1; omega
        omega
      · have := (ok.later hs ml (show k < -1 by omega)).1
        simp only [Pm.mv1, Pm.mv2] at this
        omega
    · right
      subst k0
      by_cases e : i = 0
      · subst e; rw [h2] at hi; cases hi; omega
      · have := (pw_get ok.pw h2 hi (by omega)).1; omega
    · right
      have := (ok.later hr hs k0).1
      simp only [Pm.mv1, Pm.mv2] at this
      omega
  | succ j =>
    have hb : (pre ++ [l])[j]? = some b := by
      have := (List.getElem?_eq_some_iff.mp h1).1
      rw [List.getElem?_cons_succ] at h1
      rw [List.getElem?_append_left (List.getElem?_eq_some_iff.mp h1).1]; exact h1
    have mb := List.mem_of_getElem? hb
    have fb := ok.fl b mb
    rcases Int.lt_trichotomy k 0 with k0 | k0 | k0
    · left
      have := (ok.later hs mb k0).1
      simp only [Pm.mv1, Pm.mv2] at this
      omega
    · subst k0
      rcases Nat.lt_trichotomy i j with e | e | e
      · left; have := (pw_get ok.pw hi hb e).1; omega
      · left; subst e; rw [hb] at hi; cases hi; omega
      · right
        by_cases e2 : i = j + 1
        · subst e2; rw [h2] at hi; cases hi; omega
        · have := (pw_get ok.pw h2 hi (by omega)).1; omega
    · right
      have := (ok.later hr hs k0).1
      simp only [Pm.mv1, Pm.mv2] at this
      omega
theorem prs_G {c : Int} {rs : List Rn} (ok : Pm.Ok c rs) {q : Rn × Rn} (h : q ∈ prs c rs) : Pm.G c rs q.1.2.1 (Pm.la q.1) ∧ Pm.G c rs q.2.1 q.2.2.2 ∧ ∀ z w, q.1.2.1 < z → z < q.2.1 → ¬ Pm.G c rs z w := by
  obtain ⟨m2, m1⟩ := prs_mem ok.ne q h
  refine ⟨?_, ⟨q.2, m2, 0, by omega, by have := ok.fl _ m2; omega, by omega⟩, fun z w a b => ?_⟩
  · rcases m1 with ⟨l, hl, e⟩ | hl
    · rw [e]
      refine ⟨l, hl, -1, ?_, ?_, ?_⟩
      · have := ok.fl l hl; show l.1 + -1 * c ≤ l.2.1 + -c; omega
      · show l.2.1 + -c ≤ l.2.1 + -1 * c; omega
      · show l.2.2 + -c + (l.2.1 + -c) - (l.1 + -c) = l.2.2 + (l.2.1 + -c) - l.1; omega
    · exact ⟨q.1, hl, 0, by have := ok.fl _ hl; omega, by omega, rfl⟩
  · rintro ⟨s, hs, k, h1, h2, _⟩
    rcases prs_cons ok q h s hs k with e | e <;> omega
theorem prs_snd {c : Int} {rs : List Rn} {r : Rn} (h : r ∈ rs) : ∃ b, (b, r) ∈ prs c rs := by
  obtain ⟨i, hi⟩ := List.mem_iff_getElem?.mp h
  have hl := (List.getElem?_eq_some_iff.mp hi).1
  unfold prs
  have l : i < (Pm.mv (-c) (rs.getLastD (0, 0, 0)) :: rs.dropLast).length := by rw [List.length_cons, List.length_dropLast]; omega
  exact ⟨(Pm.mv (-c) (rs.getLastD (0, 0, 0)) :: rs.dropLast)[i], List.mem_iff_getElem?.mpr ⟨i, List.getElem?_zip_eq_some.mpr ⟨List.getElem?_eq_getElem l, hi⟩⟩⟩
theorem G_lt {c : Int} {rs : List Rn} (ok : Pm.Ok c rs) {z y z' y' : Int} (h : Pm.G c rs z y) (h' : Pm.G c rs z' y') (lt : z < z') : y < y' := by
  obtain ⟨a, ha, i, a1, a2, rfl⟩ := h
  obtain ⟨b, hb, j, b1, b2, rfl⟩ := h'
  have la : Pm.la a = a.2.2 + a.2.1 - a.1 := rfl
  rcases ok.tri2 ha hb i j with ⟨rfl, rfl⟩ | g | g
  · omega
  · unfold Pm.GoesOn at g; simp only [Pm.mv1, Pm.mv2, Pm.mv3, Pm.la_mv] at g; omega
  · unfold Pm.GoesOn at g; simp only [Pm.mv1, Pm.mv2, Pm.mv3, Pm.la_mv] at g; omega
theorem F_grows {c : Int} {rs : List Rn} (ok : Pm.Ok c rs) (x : Int) : (∃ y, Pm.G c rs x y) ↔ Pm.F c rs x < Pm.F c rs (x + 1) := by
  obtain ⟨z, z0, gz, mz⟩ := ok.F_is x
  obtain ⟨w, w0, gw, mw⟩ := ok.F_is (x + 1)
  constructor
  · rintro ⟨y, h⟩
    have e : z = x := by
      by_cases e : z = x
      · exact e
      · exact absurd h (mz x y (Int.le_refl _) (by omega))
    subst e
    exact G_lt ok gz gw (by omega)
  · intro lt
    by_cases e : z = x
    · subst e; exact ⟨_, gz⟩
    · have : Pm.F c rs (x + 1) = Pm.F c rs x := Pm.FG_eq ok.fun2 ⟨z, by omega, gz, fun z' y' a b => mz z' y' (by omega) b⟩
      omega
theorem F_last {c : Int} {rs : List Rn} (ok : Pm.Ok c rs) {z y : Int} (h : Pm.G c rs z y) : Pm.F c rs z = y := Pm.FG_eq ok.fun2 ⟨z, Int.le_refl _, h, fun z' y' a b => by omega⟩
theorem F_next {c : Int} {rs : List Rn} (ok : Pm.Ok c rs) {x z y : Int} (h : Pm.G c rs z y) (le : x ≤ z) (no : ∀ z' y', x ≤ z' → z' < z → ¬ Pm.G c rs z' y') : Pm.F c rs x = y := Pm.FG_eq ok.fun2 ⟨z, le, h, no⟩
theorem F_le {c : Int} {rs : List Rn} (ok : Pm.Ok c rs) {x z y : Int} (h : Pm.G c rs z y) (le : x ≤ z) : Pm.F c rs x ≤ y := by
  obtain ⟨w, w0, gw, mw⟩ := ok.F_is x
  rcases Int.lt_trichotomy w z with e | e | e
  · have := G_lt ok gw h e; omega
  · subst e; rw [ok.fun2 _ _ _ gw h]; exact Int.le_refl _
  · exact absurd h (mw z y le e)
theorem F_same {c : Int} {A Z : List Rn} (g : ∀ z y, Pm.G c A z y ↔ Pm.G c Z z y) : Pm.G c A = Pm.G c Z := funext fun z => funext fun y => propext (g z y)
theorem F_bound {c M x : Int} {Z : List Rn} (can : Pm.Can c Z) (ba : BA M Z) : -M + x - c ≤ Pm.F c Z x ∧ Pm.F c Z x ≤ M + x + c := by
  have ok := can.1
  obtain ⟨z, z0, gz, mz⟩ := ok.F_is x
  have c1 := ok.c1
  have zc : z - c < x := Decidable.byContradiction fun h => by
    have := Pm.G_move (-1) gz
    rw [show z + -1 * c = z - c by omega] at this
    exact mz _ _ (by omega) (by omega) this
  obtain ⟨r, hr, k, h1, h2, e⟩ := gz
  have a := ba r hr
  have b := can_rng can r hr
  rw [e]
  omega
end Gr

set_option Elab.async false
set_option linter.all false
set_option maxRecDepth 100000
set_option maxHeartbeats 4000000
namespace Gr
open PySem PySem.Spec PyProof.Rows L2
open Pm (Rn)
/-! ### latest starts: the rows and what they tell -/
def latQ (q : Rn × Rn) : List Rn := (q.2.2.2 - 1, q.2.2.2 - 1, q.1.2.1) :: (if q.2.1 < q.2.2.1 then [(q.2.2.2, q.2.2.2 + q.2.2.1 - q.2.1 - 1, q.2.1)] else [])
def latL (c : Int) (rs : List Rn) : List Rn := (prs c rs).flatMap latQ
theorem latQ_mem {q : Rn × Rn} {r : Rn} : r ∈ latQ q ↔ r = (q.2.2.2 - 1, q.2.2.2 - 1, q.1.2.1) ∨ (q.2.1 < q.2.2.1 ∧ r = (q.2.2.2, q.2.2.2 + q.2.2.1 - q.2.1 - 1, q.2.1)) := by
  unfold latQ
  by_cases h : q.2.1 < q.2.2.1
  · rw [if_pos h]; simp [h]
  · rw [if_neg h]; simp [h]
theorem lat_mem {c : Int} {rs : List Rn} {r : Rn} : r ∈ latL c rs ↔ ∃ q ∈ prs c rs, r = (q.2.2.2 - 1, q.2.2.2 - 1, q.1.2.1) ∨ (q.2.1 < q.2.2.1 ∧ r = (q.2.2.2, q.2.2.2 + q.2.2.1 - q.2.1 - 1, q.2.1)) := by
  unfold latL
  simp only [List.mem_flatMap, latQ_mem]
/-- one pair of neighbours behind another one -/
def PairB (q q' : Rn × Rn) : Prop := Pm.GoesOn q.2 q'.2 ∧ q.2.2.1 ≤ q'.1.2.1 ∧ q.1.2.1 < q'.1.2.1
theorem prs_pw {c : Int} {rs : List Rn} (ok : Pm.Ok c rs) : (prs c rs).Pairwise PairB := by
  rw [List.pairwise_iff_getElem]
  intro i j hi hj lt
  have gi : (prs c rs)[i]? = some (prs c rs)[i] := List.getElem?_eq_getElem hi
  have gj : (prs c rs)[j]? = some (prs c rs)[j] := List.getElem?_eq_getElem hj
  generalize (prs c rs)[i] = q at gi ⊢
  generalize (prs c rs)[j] = q' at gj ⊢
  have g1 := prs_goes ok q (List.mem_of_getElem? gi)
  obtain ⟨b, r⟩ := q
  obtain ⟨b', r'⟩ := q'
  unfold prs at gi gj
  have ri := (List.getElem?_zip_eq_some.mp gi).2
  have rj := (List.getElem?_zip_eq_some.mp gj).2
  have bj := (List.getElem?_zip_eq_some.mp gj).1
  cases j with
  | zero => omega
  | succ j =>
    rw [List.getElem?_cons_succ, List.getElem?_dropLast] at bj
    split at bj
    · have go := pw_get ok.pw ri rj lt
      have fr := ok.fl r (List.mem_of_getElem? ri)
      have fb := ok.fl b' (List.mem_of_getElem? bj)
      have h1 : b.2.1 < r.1 := g1.1
      have le : r.2.1 ≤ b'.2.1 := by
        by_cases e : i = j
        · subst e; rw [ri] at bj; cases bj; exact Int.le_refl _
        · have : r.2.1 < b'.1 := (pw_get ok.pw ri bj (by omega)).1
          omega
      exact ⟨go, le, by show b.2.1 < b'.2.1; omega⟩
    · cases bj
theorem prs_ne {c : Int} {rs : List Rn} (h : rs ≠ []) : prs c rs ≠ [] := by
  obtain ⟨r, hr⟩ := List.exists_mem_of_ne_nil _ h
  obtain ⟨b, hb⟩ := prs_snd (c := c) hr
  exact List.ne_nil_of_mem hb
theorem lat_ok {c : Int} {rs : List Rn} (ok : Pm.Ok c rs) : Pm.Ok c (latL c rs) := by
  have c1 := ok.c1
  have inR : ∀ q ∈ prs c rs, q.2 ∈ rs := fun q hq => (prs_mem ok.ne q hq).1
  refine ⟨c1, ?_, ?_, ?_, ?_⟩
  · obtain ⟨q, hq⟩ := List.exists_mem_of_ne_nil _ (prs_ne (c := c) ok.ne)
    exact List.ne_nil_of_mem (lat_mem.mpr ⟨q, hq, .inl rfl⟩)
  · intro r hr
    obtain ⟨q, hq, rfl | ⟨l, rfl⟩⟩ := lat_mem.mp hr
    · exact Int.le_refl _
    · show q.2.2.2 ≤ q.2.2.2 + q.2.2.1 - q.2.1 - 1; omega
  · unfold latL
    rw [List.pairwise_flatMap]
    refine ⟨fun q hq => ?_, (prs_pw ok).imp_of_mem ?_⟩
    · have g1 := prs_goes ok q hq
      unfold latQ
      by_cases h : q.2.1 < q.2.2.1
      · rw [if_pos h]
        refine List.pairwise_cons.mpr ⟨fun r hr => ?_, List.pairwise_singleton _ _⟩
        rw [List.mem_singleton.mp hr]
        have := g1.1
        exact ⟨by show q.2.2.2 - 1 < q.2.2.2; omega, by show q.1.2.1 + (q.2.2.2 - 1) - (q.2.2.2 - 1) < q.2.1; omega⟩
      · rw [if_neg h]; exact List.pairwise_singleton _ _
    · rintro q q' hq hq' ⟨⟨h1, h2⟩, h3, h4⟩ x hx y hy
      have f := ok.fl _ (inR q hq)
      have f' := ok.fl _ (inR q' hq')
      have g1 := (prs_goes ok q hq).1
      have g1' := (prs_goes ok q' hq').1
      unfold Pm.la at h2
      rcases latQ_mem.mp hx with rfl | ⟨l, rfl⟩ <;> rcases latQ_mem.mp hy with rfl | ⟨l', rfl⟩ <;> (unfold Pm.GoesOn Pm.la; constructor <;> ((try simp only []); omega))
  · intro a ha b hb
    obtain ⟨q, hq, ea⟩ := lat_mem.mp ha
    obtain ⟨q', hq', eb⟩ := lat_mem.mp hb
    have f := ok.fl _ (inR q hq)
    have f' := ok.fl _ (inR q' hq')
    have g1 := (prs_goes ok q hq).1
    have g1' := (prs_goes ok q' hq').1
    obtain ⟨h1, h2⟩ := ok.cy _ (inR q hq) _ (inR q' hq')
    have h3 : q.2.2.1 - c ≤ q'.1.2.1 := by
      have h1' : q.2.2.1 + -c < q'.2.1 := h1
      rcases prs_cons ok q' hq' q.2 (inR q hq) (-1) with e | e <;> omega
    simp only [Pm.mv1, Pm.mv2, Pm.mv3, Pm.la_mv] at h1 h2
    unfold Pm.la at h2
    rcases ea with rfl | ⟨l, rfl⟩ <;> rcases eb with rfl | ⟨l', rfl⟩ <;> (unfold Pm.GoesOn; simp only [Pm.mv1, Pm.mv2, Pm.mv3, Pm.la_mv]; unfold Pm.la; constructor <;> ((try simp only []); omega))
/-- (i) each row tells a last start, the next arrival right behind -/
theorem lat_one {c : Int} {rs : List Rn} (ok : Pm.Ok c rs) {z x : Int} (h : Pm.G c (latL c rs) z x) : (∃ v, Pm.G c rs x v) ∧ Pm.F c rs (x + 1) = z + 1 := by
  obtain ⟨r, hr, k, h1, h2, e⟩ := h
  obtain ⟨q, hq, rfl | ⟨l, rfl⟩⟩ := lat_mem.mp hr
  · obtain ⟨g1, g2, g3⟩ := prs_G ok hq
    simp only [] at h1 h2 e
    have ez : z = q.2.2.2 - 1 + k * c := by omega
    have ex : x = q.1.2.1 + k * c := by omega
    refine ⟨⟨_, by rw [ex]; exact Pm.G_move k g1⟩, ?_⟩
    rw [F_next ok (Pm.G_move k g2) (x := x + 1) (by have := (prs_goes ok q hq).1; omega) fun z' y' a b gz => ?_]
    · omega
    · have := Pm.G_move (-k) gz
      rw [Int.neg_mul] at this
      exact g3 _ _ (by omega) (by omega) this
  · have hm := (prs_mem ok.ne q hq).1
    simp only [] at h1 h2 e
    refine ⟨⟨_, q.2, hm, k, by omega, by omega, rfl⟩, ?_⟩
    rw [F_last ok (z := x + 1) ⟨q.2, hm, k, by omega, by omega, rfl⟩]
    omega
/-- (ii) a moment right ahead of an arrival has a row -/
theorem lat_two {c : Int} {rs : List Rn} (ok : Pm.Ok c rs) {w v : Int} (h : Pm.G c rs w v) : ∃ x, Pm.G c (latL c rs) (v - 1) x := by
  obtain ⟨r, hr, k, h1, h2, e⟩ := h
  obtain ⟨b, hb⟩ := prs_snd (c := c) hr
  by_cases h : w = r.1 + k * c
  · exact ⟨_, _, lat_mem.mpr ⟨_, hb, .inl rfl⟩, k, by show r.2.2 - 1 + k * c ≤ v - 1; omega, by show v - 1 ≤ r.2.2 - 1 + k * c; omega, rfl⟩
  · exact ⟨_, _, lat_mem.mpr ⟨_, hb, .inr ⟨by show r.1 < r.2.1; omega, rfl⟩⟩, k, by show r.2.2 + k * c ≤ v - 1; omega, by show v - 1 ≤ r.2.2 + r.2.1 - r.1 - 1 + k * c; omega, rfl⟩
/-- the latest start for a moment -/
theorem lat_is {c : Int} {rs : List Rn} (ok : Pm.Ok c rs) (y : Int) : Pm.F c rs (Pm.F c (latL c rs) y) ≤ y ∧ y < Pm.F c rs (Pm.F c (latL c rs) y + 1) := by
  obtain ⟨z, z0, gz, mz⟩ := (lat_ok ok).F_is y
  obtain ⟨⟨v, hv⟩, e⟩ := lat_one ok gz
  have ev := F_last ok hv
  have gr := (F_grows ok _).mp ⟨v, hv⟩
  refine ⟨Decidable.byContradiction fun h => ?_, by omega⟩
  obtain ⟨x', hx⟩ := lat_two ok hv
  exact mz _ _ (by omega) (by omega) hx
/-- and there is one alone -/
theorem F_mono {c : Int} {rs : List Rn} (ok : Pm.Ok c rs) {x y : Int} (h : x ≤ y) : Pm.F c rs x ≤ Pm.F c rs y := by
  obtain ⟨z, z0, gz, _⟩ := ok.F_is y
  exact F_le ok gz (by omega)
theorem lat_uniq {c : Int} {rs : List Rn} (ok : Pm.Ok c rs) {x y : Int} (h1 : Pm.F c rs x ≤ y) (h2 : y < Pm.F c rs (x + 1)) : Pm.F c (latL c rs) y = x := by
  obtain ⟨a, b⟩ := lat_is ok y
  rcases Int.lt_trichotomy (Pm.F c (latL c rs) y) x with h | h | h
  · have := F_mono ok (show Pm.F c (latL c rs) y + 1 ≤ x by omega); omega
  · exact h
  · have := F_mono ok (show x + 1 ≤ Pm.F c (latL c rs) y by omega); omega
end Gr

set_option Elab.async false
set_option linter.all false
set_option pp.deepTerms false
set_option pp.maxSteps 3000
set_option maxRecDepth 100000
set_option maxHeartbeats 4000000
set_option exponentiation.threshold 3000
namespace Gr
open PySem PySem.Spec PyProof.Rows L2
open Pm (Rn)
/-! ### latest_runs, Passage.latest, Passage.__eq__ -/
structure IsP (K : PySem.W.Frag) (C : Addr) : Prop where
  ha : PySem.W.findIn K (.ref C) "__class__" = some (some (.builtin "object.__class__"))
  hn : PySem.W.specialIn K (.builtin "object.__class__") "__get__" = some (some (.builtin "getset_descriptor.__get__"))
  htk : PySem.W.takesIn K (.builtin "object.__class__") = some true
  hm : PySem.W.mroIn K C (.type "object") = some true
  one : PySem.W.kitOne K (.ref C) (.ref C) = some true
def spLatR : Sp := fun vs H Q _ => ∃ (c : Int) (a : Addr) (rs : List Rn), vs = [.int c, .ref a] ∧ RnsT H a rs ∧ rs ≠ [] ∧ rs.length ≤ 20000 ∧ ∀ T H', Same H H' → RnsT H' T (latL c rs) → Q (.ref T) H'
theorem latQ_len (q : Rn × Rn) : (latQ q).length ≤ 2 := by unfold latQ; split <;> simp
theorem lat_len (ps : List (Rn × Rn)) : (ps.flatMap latQ).length ≤ 2 * ps.length := by
  induction ps with
  | nil => exact Nat.zero_le _
  | cons q ps ih =>
    rw [List.flatMap_cons, List.length_append, List.length_cons]
    have := latQ_len q
    omega
theorem latL_len {c : Int} {rs : List Rn} : (latL c rs).length ≤ 2 * rs.length := by
  refine Nat.le_trans (lat_len _) (Nat.mul_le_mul_left _ ?_)
  unfold prs; rw [List.length_zip]; exact Nat.min_le_right _ _
theorem app_keep {G : Hp} {F T b : Addr} {us ys xs : List V} {o : HO} (hF : G F = some (.lst us)) (hT : G T = none) (h : G b = some (.tup xs)) : (upd (upd G T o) F (.lst ys)) b = some (.tup xs) := by
  rw [upd_ne (ne_of h hF (fun z => nomatch z))]; exact Same.new hT _ _ h
theorem app_list {G : Hp} {F T L : Addr} {us ys ps : List V} {o : HO} (hT : G T = none) (h : G L = some (.lst ps)) (n : L ≠ F) : (upd (upd G T o) F (.lst ys)) L = some (.lst ps) := by
  rw [upd_ne n]; exact Same.new hT _ _ h
theorem app_row {G : Hp} {F T : Addr} {us : List V} {rs : List Rn} (hF : G F = some (.lst us)) (hT : G T = none) (hU : Paired (RnAt G) us rs) (r : Rn) : Paired (RnAt (upd (upd G T (.tup (i3 r))) F (.lst (us ++ [.ref T])))) (us ++ [.ref T]) (rs ++ [r]) := by
  have nTF : T ≠ F := fun e => by rw [e, hF] at hT; cases hT
  exact paired_snoc (L2.Paired.mapP hU fun _ _ ⟨b, e, h⟩ => ⟨b, e, app_keep hF hT h⟩) ⟨T, rfl, by rw [upd_ne nTF]; exact upd_same⟩
theorem app_same {H G : Hp} {F T : Addr} {us ys : List V} {o : HO} (hH : H F = none) (s : Same H G) (hT : G T = none) : Same H (upd (upd G T o) F (.lst ys)) := fun q o' e => by
  rw [upd_ne (ne_of_none e hH)]; exact Same.new hT _ _ (s q o' e)
theorem app_prs {G : Hp} {F T : Addr} {us ys ps : List V} {qs : List (Rn × Rn)} {o : HO} (hF : G F = some (.lst us)) (hT : G T = none) (h : Paired (PrAt G) ps qs) : Paired (PrAt (upd (upd G T o) F (.lst ys))) ps qs :=
  L2.Paired.mapP h fun _ _ ⟨t, u, v, e, ht, ⟨bu, eu, hu⟩, ⟨bv, ev, hv⟩⟩ => ⟨t, u, v, e, app_keep hF hT ht, ⟨bu, eu, app_keep hF hT hu⟩, ⟨bv, ev, app_keep hF hT hv⟩⟩
section
variable {P : Program} {w : World} {K : PySem.W.Frag} {mg : Str → Option Value} {base : Heap} {tC : Tok}
theorem ok_latR {f f1 f2 : Addr} {fd fd1 fd2 : FuncData} (B : Blt mg tC) (Dlatest_runs : Def K mg "latest_runs" s_latest_runs ["cycle", "runs"] f fd) (Drun_pairs : Def K mg "run_pairs" s_run_pairs ["cycle", "runs"] f1 fd1) (Dmoved : Def K mg "moved" s_moved ["run", "ticks"] f2 fd2) : FnOk P w K mg base CX0 3 f fd ["cycle", "runs"] spLatR := by
  have Grun_pairs := ok_pairs (P := P) (w := w) (base := base) B Drun_pairs Dmoved
  refine Dlatest_runs.F.ok sclatest_runs (fun vs H Q E h => ?_) (fun cdv A outer s H vs Q E hr h => ⟨_, (pss_cons (ps_set (i := 2) sclatest_runs.nd rfl (Or.inl rfl) (pe_lst pa_nil))
  (pss_cons (ps_for PassesOwn.never rfl (pi_list (pe_call Grun_pairs (hr.mono (by decide)) (by rfl) Drun_pairs.g Drun_pairs.F.kp Drun_pairs.b .nil pass0 (pa_cons (pv 0) (pa_cons (pv 1) pa_nil)))) (pg_tup rfl (pgs_cons (pg_name (i := 3) sclatest_runs.nd rfl (Or.inl rfl)) (pgs_cons (pg_tup rfl (pgs_cons (pg_name (i := 4) sclatest_runs.nd rfl (Or.inl rfl)) (pgs_cons (pg_name (i := 5) sclatest_runs.nd rfl (Or.inl rfl)) (pgs_cons (pg_name (i := 6) sclatest_runs.nd rfl (Or.inl rfl)) pgs_nil)))) pgs_nil)))
   (pss_cons (ps_expr (pe_bm PySem.F.plainAttrs_list PySem.F.slot_list_append PySem.F.type_list_append mt_append (pv 2) (pa_cons (pe_tup (pa_cons (pe_op op_sub (pv 6) pe_int) (pa_cons (pe_op op_sub (pv 6) pe_int) (pa_cons (pe_ix ix_tup (pv 3) pe_int (fun _ _ => rfl)) pa_nil)))) pa_nil)))
  (pss_one (ps_if (pt_cmpR op_lt (pv 4) (pv 5) (nomark _))
   (pss_one (ps_expr (pe_bm PySem.F.plainAttrs_list PySem.F.slot_list_append PySem.F.type_list_append mt_append (pv 2) (pa_cons (pe_tup (pa_cons (pv 6) (pa_cons (pe_op op_sub (pe_op op_sub (pe_op op_add (pv 6) (pv 5)) (pv 4)) pe_int) (pa_cons (pv 4) pa_nil)))) pa_nil))))
   pss_nil))))
  (pss_one (ps_ret (pe_callTy call_tuple_of (by rfl) B.n_tuple (by decide +kernel) (pa_cons (pv 2) pa_nil)))))), ?_⟩)
  · obtain ⟨c, a, rs, rfl, _⟩ := h; rfl
  · obtain ⟨c, a, rs, rfl, hS, ne, hl, q⟩ := h
    refine ⟨Nat.zero_le _, fun F hF => ?_⟩
    have sF := Same.new hF (o := .lst [])
    refine ⟨_, rfl, _, rfl, c, a, rs, rfl, hS.mono sF, ne, by omega, fun L ps H1 s1 hL hX => ?_⟩
    have hF1 := s1 F _ upd_same
    have lps := paired_len hX
    have lpr : (prs c rs).length ≤ rs.length := by unfold prs; rw [List.length_zip]; exact Nat.min_le_right _ _
    refine ⟨L, rfl, ⟨_, SqL.of hL⟩, ?_⟩
    refine for_list (xs := ps) (fun i σ H' => ∃ (us : List V) (y3 y4 y5 y6 : Option V), σ = [some (.int c), some (.ref a), some (.ref F), y3, y4, y5, y6] ∧ Same H H' ∧ H' L = some (.lst ps) ∧ Paired (PrAt H') ps (prs c rs) ∧ H' F = some (.lst us) ∧ Paired (RnAt H') us (((prs c rs).take i).flatMap latQ))
      ⟨[], none, none, none, none, rfl, sF.trans s1, hL, hX, hF1, .nil⟩ (fun i σ H' _ ⟨_, _, _, _, _, _, _, h, _⟩ => SqL.of h) ?_ ?_
    · rintro i v σ H' hv ⟨us, y3, y4, y5, y6, rfl, s3, hL3, hX3, hF3, hU⟩
      have hi := (List.getElem?_eq_some_iff.mp hv).1
      obtain ⟨⟨b, r⟩, hg, t, u, v, rfl, ht, ⟨bu, rfl, hu⟩, ⟨bv, rfl, hv⟩⟩ := paired_at hX3 hv
      have nFL : L ≠ F := fun e => by
        rw [e, hF1] at hL
        have : ps = [] := by cases hL; rfl
        rw [this] at lps
        exact prs_ne (c := c) ne (List.eq_nil_of_length_eq_zero lps.symm)
      have lU := paired_len hU
      have lU2 := lat_len ((prs c rs).take i)
      rw [List.length_take] at lU2
      refine ⟨t, _, rfl, SqT.of ht, rfl, _, _, rfl, _, _, rfl, bv, _, rfl, SqT.of hv, rfl, _, _, rfl, _, _, rfl, _, _, rfl, rfl, rfl, ?_⟩
      refine ⟨_, rfl, .inl ⟨rfl, _, SqL.of hF3⟩, _, rfl, _, _, rfl, rfl, _, rfl, _, _, rfl, rfl, _, rfl, bu, _, _, _, rfl, rfl, SqT.of hu, atI_nat (j := 1) rfl, (by show 3 ≤ sizeLine; decide), fun T hT => ?_⟩
      refine ⟨F, us, _, rfl, rfl, Same.new hT _ _ hF3, smallL (by omega), ?_⟩
      have a1 : Paired (RnAt _) _ _ := app_row hF3 hT hU (r.2.2 - 1, r.2.2 - 1, b.2.1)
      have a2 := app_same (ys := us ++ [.ref T]) (o := .tup (i3 (r.2.2 - 1, r.2.2 - 1, b.2.1))) (us := us) hF s3 hT
      have a3 := app_prs (ys := us ++ [.ref T]) (o := .tup (i3 (r.2.2 - 1, r.2.2 - 1, b.2.1))) hF3 hT hX3
      have a4 := app_list (us := us) (F := F) (ys := us ++ [.ref T]) (o := .tup (i3 (r.2.2 - 1, r.2.2 - 1, b.2.1))) hT hL3 nFL
      have a5 : (upd (upd H' T (.tup (i3 (r.2.2 - 1, r.2.2 - 1, b.2.1)))) F (.lst (us ++ [.ref T]))) F = some (.lst (us ++ [.ref T])) := upd_same
      have eq1 : ((prs c rs).take (i + 1)).flatMap latQ = ((prs c rs).take i).flatMap latQ ++ latQ (b, r) := by
        rw [List.take_add_one, hg, List.flatMap_append]; simp
      rw [eq1]
      refine ⟨_, rfl, _, rfl, _, _, rfl, rfl, _, rfl, ?_⟩
      by_cases z : r.1 < r.2.1
      · refine iteY z ?_
        have eq2 : latQ (b, r) = [(r.2.2 - 1, r.2.2 - 1, b.2.1), (r.2.2, r.2.2 + r.2.1 - r.1 - 1, r.1)] := by
          unfold latQ; rw [if_pos z]
        refine ⟨_, rfl, .inl ⟨rfl, _, SqL.of a5⟩, _, rfl, _, rfl, _, rfl, _, _, rfl, rfl, _, rfl, _, _, rfl, rfl, _, _, rfl, rfl, _, rfl, (by show 3 ≤ sizeLine; decide), fun T2 hT2 => ?_⟩
        refine ⟨F, _, _, rfl, rfl, Same.new hT2 _ _ a5, smallL (by rw [List.length_append, List.length_singleton]; omega), ?_⟩
        refine ⟨_, _, _, _, _, rfl, app_same (us := us) hF a2 hT2, app_list (us := us) hT2 a4 nFL, app_prs a5 hT2 a3, upd_same, ?_⟩
        have a6 := app_row a5 hT2 a1 (r.2.2, r.2.2 + r.2.1 - r.1 - 1, r.1)
        rw [List.append_assoc (((prs c rs).take i).flatMap latQ)] at a6
        rw [eq2]
        exact a6
      · refine iteN z ?_
        have eq2 : latQ (b, r) = [(r.2.2 - 1, r.2.2 - 1, b.2.1)] := by
          unfold latQ; rw [if_neg z]
        rw [eq2]
        exact ⟨_, _, _, _, _, rfl, a2, a4, a3, a5, a1⟩
    · rintro σ H' ⟨us, y3, y4, y5, y6, rfl, s3, hL3, hX3, hF3, hU⟩
      rw [List.take_of_length_le (by omega)] at hU
      refine ⟨_, rfl, F, us, rfl, .inl ⟨SqL.of hF3, fun l hl => ?_⟩⟩
      exact q l _ (s3.trans (Same.new hl)) ⟨us, upd_same, rns_mono (Same.new hl) hU⟩
end
end Gr

set_option Elab.async false
set_option linter.all false
set_option pp.deepTerms false
set_option pp.maxSteps 3000
set_option maxRecDepth 100000
set_option maxHeartbeats 4000000
set_option exponentiation.threshold 3000
namespace Gr
open PySem PySem.Spec PyProof.Rows L2
open Pm (Rn)
def spLatest (C : Addr) : Sp := fun vs H Q _ => ∃ (p : Addr) (c M : Int) (Z : List Rn), vs = [.ref p] ∧ PasAt C H p c M Z ∧ Z.length ≤ 20000 ∧ M ≤ 10 ^ 199 ∧
  ∀ x H' Zl, Same H H' → PasAt C H' x c (2 * (M + 2 * c + 1) + c) Zl → (∀ z y, Pm.G c (latL c Z) z y ↔ Pm.G c Zl z y) → Zl.length ≤ 2 * Z.length → Q (.ref x) H'
def EqP (C : Addr) (a b : Addr) (H : Hp) : Prop := ∃ c M M' Z, PasAt C H a c M Z ∧ PasAt C H b c M' Z
theorem lat_br {c M : Int} {Z : List Rn} (can : Pm.Can c Z) (ba : BA M Z) : BR (M + 2 * c + 1) (latL c Z) := by
  intro r hr
  have ok := can.1
  have c1 := ok.c1
  obtain ⟨q, hq, e⟩ := lat_mem.mp hr
  obtain ⟨m2, m1⟩ := prs_mem ok.ne q hq
  have a1 := can_rng can q.2 m2
  have a2 := ba q.2 m2
  have b1 : -c ≤ q.1.2.1 ∧ q.1.2.1 ≤ 2 * c := by
    rcases m1 with ⟨l, hl, e'⟩ | hl
    · have a3 := can_rng can l hl
      have : q.1.2.1 = l.2.1 + -c := by rw [e']; rfl
      omega
    · have a3 := can_rng can q.1 hl; omega
  rcases e with rfl | ⟨l, rfl⟩ <;> (simp only []; omega)
def rnD (r : Rn) : PyData := .tuple [.int r.1, .int r.2.1, .int r.2.2]
def rnsD (Z : List Rn) : PyData := .tuple (Z.map rnD)
theorem lay_rns : ∀ Z : List Rn, PyData.canLayAll0 (Z.map rnD) = true
  | [] => by simp [PyData.canLayAll0]
  | r :: Z => by simp [PyData.canLayAll0, PyData.canLay0, rnD, lay_rns Z]
theorem depth_rns : ∀ Z : List Rn, PyData.depthAll (Z.map rnD) ≤ 5
  | [] => by simp [PyData.depthAll]
  | r :: Z => by
    have := depth_rns Z
    simp only [List.map_cons, PyData.depthAll, PyData.depth, rnD]
    omega
theorem shaped_rns (Z : List Rn) : SeqAt.shaped (rnsD Z) = true := by
  have h := depth_rns Z
  unfold SeqAt.shaped rnsD
  rw [Bool.and_eq_true]
  refine ⟨by simpa only [PyData.canLay0] using lay_rns Z, decide_eq_true ?_⟩
  simp only [PyData.depth]
  omega
theorem eqv_rns (Z : List Rn) : PyData.eqv (rnsD Z) (rnsD Z) = true := SeqAt.eqv_refl _ (SeqAt.canLay_of_shaped (shaped_rns Z))
theorem dp_rns {K : PySem.W.Frag} {H : Hp} : ∀ {xs : List V} {Z : List Rn}, Paired (RnAt H) xs Z → DpAll K H xs (Z.map rnD)
  | _, _, .nil => .nil
  | _, _, .cons r t => by
    obtain ⟨b, rfl, h⟩ := r
    exact .cons (.tup (SqT.of h) (.cons (.int _) (.cons (.int _) (.cons (.int _) .nil)))) (dp_rns t)
theorem RnsT.dp {K : PySem.W.Frag} {H : Hp} {a : Addr} {Z : List Rn} (h : RnsT H a Z) : Dp K H (.ref a) (rnsD Z) := by
  obtain ⟨xs, h1, h2⟩ := h
  exact .tup (SqT.of h1) (dp_rns h2)
section
variable {P : Program} {w : World} {K : PySem.W.Frag} {mg : Str → Option Value} {base : Heap} {tC : Tok}
theorem ok_latest {C fI fC f f1 f2 f3 : Addr} {fdI fd fd1 fd2 fd3 : FuncData} (B : Blt mg tC) (TP : TxtP K mg C fI fC) (DP_latest : DefM K "latest" "Passage.latest" s_P_latest ["self"] f fd) (Dlatest_runs : Def K mg "latest_runs" s_latest_runs ["cycle", "runs"] f1 fd1) (Drun_pairs : Def K mg "run_pairs" s_run_pairs ["cycle", "runs"] f2 fd2) (Dmoved : Def K mg "moved" s_moved ["run", "ticks"] f3 fd3) (DP_init : DefM K "__init__" "Passage.__init__" s_P_init ["self", "cycle", "runs"] fI fdI) (GP_init : FnOk P w K mg base CX0 4 fI fdI ["self", "cycle", "runs"] (spInitP C)) : FnOk P w K mg base CX0 6 f fd ["self"] (spLatest C) := by
  have Glatest_runs := ok_latR (P := P) (w := w) (base := base) B Dlatest_runs Drun_pairs Dmoved
  refine DP_latest.F.ok scP_latest (fun vs H Q E h => ?_) (fun cdv A outer s H vs Q E hr h => ⟨_, (pss_one (ps_ret (pe_make TP.mks GP_init (hr.mono (by decide)) (by rfl) TP.mgC DP_init.b .nil pass0 (pa_cons (pe_fld (pv 0) rfl) (pa_cons (pe_call Glatest_runs (hr.mono (by decide)) (by rfl) Dlatest_runs.g Dlatest_runs.F.kp Dlatest_runs.b .nil pass0 (pa_cons (pe_fld (pv 0) rfl) (pa_cons (pe_fld (pv 0) rfl) pa_nil))) pa_nil))))), ?_⟩)
  · obtain ⟨p, c, M, Z, rfl, _⟩ := h; rfl
  · obtain ⟨p, c, M, Z, rfl, hP, hl, hM, q⟩ := h
    obtain ⟨dx, a, hp, hS⟩ := hP.ob
    refine ⟨_, rfl, p, C, dx, _, _, rfl, hp, TP.cl, TP.nC, fldP_cycle _ _, _, rfl, p, C, dx, _, _, rfl, hp, TP.cl, TP.nC, fldP_cycle _ _, _, rfl, p, C, dx, _, _, rfl, hp, TP.cl, TP.nR, fldP_runs _ _, c, a, Z, rfl, hS, hP.can.1.ne, hl, fun T H1 s1 hT => ?_⟩
    intro x dx' hx hdx nx
    have sM := same_make (C := C) hx hdx
    have e30 := hP.le
    have e199 : (10 : Int) ^ 199 + 3 * 10 ^ 30 + 1 ≤ 10 ^ 200 := by decide +kernel
    have ll := latL_len (c := c) (rs := Z)
    refine ⟨x, dx', T, c, M + 2 * c + 1, latL c Z, rfl, upd_same, hT.mono sM, lat_ok hP.can.1, e30, by omega, lat_br hP.can hP.ba, by omega, fun H2 Zl kp hPas hGr lz => ?_⟩
    exact ⟨rfl, q x _ Zl (made hx (s1.trans sM) s1 kp) hPas hGr (by omega)⟩
end
end Gr

set_option Elab.async false
set_option linter.all false
set_option pp.deepTerms false
set_option pp.maxSteps 3000
set_option maxRecDepth 100000
set_option maxHeartbeats 8000000
set_option exponentiation.threshold 3000
namespace Gr
open PySem PySem.Spec PyProof.Rows L2
open Pm (Rn)
/-! ### platoons and gaps, as the program lists them -/
/-- what isinstance asks of the class -/
def pltL (c : Int) (rs : List Rn) : List (List Int) := ((prs c rs).filter fun q => decide (q.1.2.1 + 1 < q.2.1)).map fun q => [q.1.2.1 + 1, q.2.1, q.2.2.2]
def gapL (c : Int) (rs : List Rn) : List (List Int) := ((prs c rs).filter fun q => decide (Pm.la q.1 + 1 < q.2.2.2)).map fun q => [Pm.la q.1 + 1, q.2.2.2 - 1]
def spChkP (C : Addr) : Sp := fun vs H Q _ => ∃ (p dx : Addr) (fs : List (Str × V)), vs = [.ref p] ∧ H p = some (.ins C dx fs) ∧ Q .non H
def spRowsOf (C : Addr) (f : Int → List Rn → List (List Int)) : Sp := fun vs H Q _ => ∃ (p : Addr) (c M : Int) (Z : List Rn), vs = [.ref p] ∧ PasAt C H p c M Z ∧ Z.length ≤ 50000 ∧ M ≤ 10 ^ 200 ∧
  ∀ D ys zs H', Same H H' → H D = none → H' D = some (.lst ys) → Paired (RowAt H') ys zs → zs.Perm ((f c Z).map (homeL c)) → zs.Pairwise (fun a b => TsO.lexL b a = false) → Q (.ref D) H'
section
variable {P : Program} {w : World} {K : PySem.W.Frag} {mg : Str → Option Value} {base : Heap} {tC : Tok}
theorem ok_chkP {C fI fC f : Addr} {fd : FuncData} (B : Blt mg tC) (TP : TxtP K mg C fI fC) (IP : IsP K C) (Dcheck_passage : Def K mg "check_passage" s_check_passage ["passage"] f fd) : FnOk P w K mg base CX0 1 f fd ["passage"] (spChkP C) := by
  refine Dcheck_passage.F.ok sccheck_passage (fun vs H Q E h => ?_) (fun cdv A outer s H vs Q E hr h => ⟨_, (pss_one (ps_if (pt_not (pt_val (pe_callB call_isi (by rfl) B.n_isinstance (by decide +kernel) (pa_cons (pv 0) (pa_cons (pe_glob (v := .ref C) (by rfl) TP.mgC rfl) pa_nil)))))
   (pss_one ps_never)
   pss_nil)), ?_⟩)
  · obtain ⟨p, dx, fs, rfl, _⟩ := h; rfl
  · obtain ⟨p, dx, fs, rfl, hp, q⟩ := h
    refine ⟨_, rfl, _, _, _, _, _, rfl, .own C, .base (.ins hp TP.cl IP.ha IP.hn IP.htk IP.hm), IP.one, _, rfl, ?_⟩
    exact iteF q
theorem ok_platoons {C fI fC f f1 f2 f3 f4 : Addr} {fd fd1 fd2 fd3 fd4 : FuncData} (B : Blt mg tC) (TP : TxtP K mg C fI fC) (IP : IsP K C) (Dplatoons : Def K mg "platoons" s_platoons ["passage"] f fd) (Dcheck_passage : Def K mg "check_passage" s_check_passage ["passage"] f1 fd1) (Drun_pairs : Def K mg "run_pairs" s_run_pairs ["cycle", "runs"] f2 fd2) (Dascending : Def K mg "ascending" s_ascending ["cycle", "rows"] f3 fd3) (Dmoved : Def K mg "moved" s_moved ["run", "ticks"] f4 fd4) : FnOk P w K mg base CX0 3 f fd ["passage"] (spRowsOf C pltL) := by
  have Gcheck_passage := ok_chkP (P := P) (w := w) (base := base) B TP IP Dcheck_passage
  have Grun_pairs := ok_pairs (P := P) (w := w) (base := base) B Drun_pairs Dmoved
  have Gascending := ok_asc (P := P) (w := w) (base := base) B Dascending Dmoved
  refine Dplatoons.F.ok scplatoons (fun vs H Q E h => ?_) (fun cdv A outer s H vs Q E hr h => ⟨_, (pss_cons (ps_expr (pe_call Gcheck_passage (hr.mono (by decide)) (by rfl) Dcheck_passage.g Dcheck_passage.F.kp Dcheck_passage.b .nil pass0 (pa_cons (pv 0) pa_nil)))
  (pss_cons (ps_set (i := 1) scplatoons.nd rfl (Or.inl rfl) (pe_call Grun_pairs (hr.mono (by decide)) (by rfl) Drun_pairs.g Drun_pairs.F.kp Drun_pairs.b .nil pass0 (pa_cons (pe_fld (pv 0) rfl) (pa_cons (pe_fld (pv 0) rfl) pa_nil))))
  (pss_cons (ps_setLc (i := 2) (own := [("before", 3), ("run", 4)]) (g := (gTup K 2 (gCons (gName 3) (gCons (gName 4) gNil))))  rfl scplatoons.nd rfl rfl (sw_true rfl rfl rfl (by decide +kernel)) (pi_list (pv 1)) (blkOk_by (N := ["passage", "pairs", "found", "before", "run"]) (sc := defScope s_platoons) (by decide +kernel)) (fun _ _ _ _ _ => (pg_tup rfl (pgs_cons (pg_name (i := 3) scplatoons.nd rfl (Or.inl rfl)) (pgs_cons (pg_name (i := 4) scplatoons.nd rfl (Or.inl rfl)) pgs_nil)))) (fun _ _ _ _ _ => pts_one (pt_cmpR op_lt (pe_op op_add (pe_ix (r := rIxT K) (by exact ix_tup) (pv 3) pe_int (fun _ _ => rfl)) pe_int) (pe_ix (r := rIxT K) (by exact ix_tup) (pv 4) pe_int (fun _ _ => rfl)) (nomark _))) (fun _ _ _ _ _ => (pe_tup (pa_cons (pe_op op_add (pe_ix (r := rIxT K) (by exact ix_tup) (pv 3) pe_int (fun _ _ => rfl)) pe_int) (pa_cons (pe_ix (r := rIxT K) (by exact ix_tup) (pv 4) pe_int (fun _ _ => rfl)) (pa_cons (pe_ix (r := rIxT K) (by exact ix_tup) (pv 4) pe_int (fun _ _ => rfl)) pa_nil))))))
  (pss_one (ps_ret (pe_call Gascending (hr.mono (by decide)) (by rfl) Dascending.g Dascending.F.kp Dascending.b .nil pass0 (pa_cons (pe_fld (pv 0) rfl) (pa_cons (pv 2) pa_nil)))))))), ?_⟩)
  · obtain ⟨p, c, M, Z, rfl, _⟩ := h; rfl
  · obtain ⟨p, c, M, Z, rfl, hP, hl, hM, q⟩ := h
    obtain ⟨dx, a, hp, hS⟩ := hP.ob
    refine ⟨_, rfl, p, dx, _, rfl, hp, ?_⟩
    refine ⟨_, rfl, p, C, dx, _, _, rfl, hp, TP.cl, TP.nC, fldP_cycle _ _, _, rfl, p, C, dx, _, _, rfl, hp, TP.cl, TP.nR, fldP_runs _ _, c, a, Z, rfl, hS, hP.can.1.ne, hl, fun L ps H1 s1 hL hX => ?_⟩
    refine ⟨_, rfl, L, rfl, ⟨_, SqL.of hL⟩, fun D hD => ?_⟩
    have lps := paired_len hX
    have lpr : (prs c Z).length ≤ Z.length := by unfold prs; rw [List.length_zip]; exact Nat.min_le_right _ _
    refine lc_list (xs := ps) (fun i H' => ∃ ys, Same H1 H' ∧ H' D = some (.lst ys) ∧ Paired (RowAt H') ys ((((prs c Z).take i).filter fun q => decide (q.1.2.1 + 1 < q.2.1)).map fun q => [q.1.2.1 + 1, q.2.1, q.2.2.2])) ⟨[], Same.new hD, upd_same, .nil⟩ (fun i H' _ ⟨_, s3, _⟩ => SqL.of (s3 _ _ hL)) ?_ ?_
    · rintro i y H' hy ⟨ys, s3, e3, hY⟩
      have hi := (List.getElem?_eq_some_iff.mp hy).1
      obtain ⟨⟨b, r⟩, hg, t, u, v, rfl, ht, ⟨bu, rfl, hu⟩, ⟨bv, rfl, hv⟩⟩ := paired_at hX hy
      have hu' := s3 _ _ hu
      have hv' := s3 _ _ hv
      have ly := paired_len hY
      have lY : ys.length ≤ 50000 := by
        rw [List.length_map] at ly
        have := List.length_filter_le (fun q : Rn × Rn => decide (q.1.2.1 + 1 < q.2.1)) ((prs c Z).take i)
        rw [List.length_take] at this
        omega
      refine ⟨t, _, rfl, SqT.of (s3 _ _ ht), rfl, _, _, rfl, _, _, rfl, rfl, rfl, ?_⟩
      refine ⟨_, rfl, bu, _, _, _, rfl, rfl, SqT.of hu', atI_nat (j := 1) rfl, _, _, rfl, rfl, _, rfl, bv, _, _, _, rfl, rfl, SqT.of hv', atI_nat (j := 0) rfl, _, _, rfl, rfl, _, rfl, ?_⟩
      rw [filt_snoc hg]
      by_cases z : b.2.1 + 1 < r.1
      · refine iteY z ?_
        rw [if_pos (decide_eq_true z)]
        refine ⟨_, rfl, bu, _, _, _, rfl, rfl, SqT.of hu', atI_nat (j := 1) rfl, _, _, rfl, rfl, _, rfl, bv, _, _, _, rfl, rfl, SqT.of hv', atI_nat (j := 0) rfl, _, rfl, bv, _, _, _, rfl, rfl, SqT.of hv', atI_nat (j := 2) rfl, (by show 3 ≤ sizeLine; decide), fun T hT => ?_⟩
        have nTD : D ≠ T := fun e => by rw [← e, e3] at hT; cases hT
        refine ⟨ys, Same.new hT _ _ e3, smallL (by omega), ys ++ [.ref T], fun b' o h => ?_, upd_same, paired_snoc (L2.Paired.mapP hY fun _ _ ⟨b', e', h'⟩ => ⟨b', e', ?_⟩) ⟨T, rfl, by rw [upd_ne nTD.symm]; exact upd_same⟩⟩
        · rw [upd_ne (ne_of_none h hD)]; exact Same.new hT _ _ (s3 _ _ h)
        · rw [upd_ne (ne_of h' e3 (fun z => nomatch z))]; exact Same.new hT _ _ h'
      · refine iteN z ?_
        rw [if_neg (by rw [decide_eq_false z]; decide), List.append_nil]
        exact ⟨ys, s3, e3, hY⟩
    · rintro H' ⟨ys, s3, e3, hY⟩
      rw [List.take_of_length_le (by omega)] at hY
      have sH := s1.trans s3
      refine ⟨_, rfl, p, C, dx, _, _, rfl, sH _ _ hp, TP.cl, TP.nC, fldP_cycle _ _, _, rfl, c, D, ys, pltL c Z, 3, rfl, e3, hY, hP.can.1.c1, hP.le, by decide, by decide, ?_, fun ns hn => ?_, fun D2 ys2 zs H2 s2 hn2 h2 hY2 pm pw => q D2 ys2 zs H2 (sH.trans s2) (sH.free hn2) h2 hY2 pm pw⟩
      · unfold pltL
        rw [List.length_map]
        exact Nat.le_trans (List.length_filter_le _ _) (by omega)
      · obtain ⟨x, hx, rfl⟩ := List.mem_map.mp hn
        have hx' := (List.mem_filter.mp hx).1
        refine ⟨rfl, ?_⟩
        obtain ⟨m2, m1⟩ := prs_mem hP.can.1.ne x hx'
        have e30 := hP.le
        have k30 : 10 * (10 : Int) ^ 30 ≤ 10 ^ 200 := by decide +kernel
        have k200 : 10 * (10 : Int) ^ 200 ≤ 10 ^ 300 := by decide +kernel
        have c1 := hP.can.1.c1
        rcases m1 with ⟨l, hl1, e⟩ | hl1
        · have a1 := can_rng hP.can l hl1
          have a2 := hP.ba l hl1
          have f1 : x.1.2.1 = l.2.1 + -c := by rw [e]; rfl
          have f2 : Pm.la x.1 = Pm.la l + -c := by rw [e]; exact Pm.la_mv ..
          have f3 : Pm.la l = l.2.2 + l.2.1 - l.1 := rfl
          unfold Fit
          show -(10 ^ 300) ≤ x.1.2.1 + 1 ∧ x.1.2.1 + 1 ≤ 10 ^ 300
          omega
        · have a1 := can_rng hP.can _ hl1
          have a2 := hP.ba _ hl1
          have f3 : Pm.la x.1 = x.1.2.2 + x.1.2.1 - x.1.1 := rfl
          unfold Fit
          show -(10 ^ 300) ≤ x.1.2.1 + 1 ∧ x.1.2.1 + 1 ≤ 10 ^ 300
          omega
theorem ok_gaps {C fI fC f f1 f2 f3 f4 : Addr} {fd fd1 fd2 fd3 fd4 : FuncData} (B : Blt mg tC) (TP : TxtP K mg C fI fC) (IP : IsP K C) (Dgaps : Def K mg "gaps" s_gaps ["passage"] f fd) (Dcheck_passage : Def K mg "check_passage" s_check_passage ["passage"] f1 fd1) (Drun_pairs : Def K mg "run_pairs" s_run_pairs ["cycle", "runs"] f2 fd2) (Dascending : Def K mg "ascending" s_ascending ["cycle", "rows"] f3 fd3) (Dmoved : Def K mg "moved" s_moved ["run", "ticks"] f4 fd4) {f5 : Addr} {fd5 : FuncData} (Dlast_arrival : Def K mg "last_arrival" s_last_arrival ["run"] f5 fd5) : FnOk P w K mg base CX0 3 f fd ["passage"] (spRowsOf C gapL) := by
  have Gcheck_passage := ok_chkP (P := P) (w := w) (base := base) B TP IP Dcheck_passage
  have Grun_pairs := ok_pairs (P := P) (w := w) (base := base) B Drun_pairs Dmoved
  have Glast_arrival := ok_last_arr (P := P) (w := w) (base := base) B Dlast_arrival
  have Gascending := ok_asc (P := P) (w := w) (base := base) B Dascending Dmoved
  refine Dgaps.F.ok scgaps (fun vs H Q E h => ?_) (fun cdv A outer s H vs Q E hr h => ⟨_, (pss_cons (ps_expr (pe_call Gcheck_passage (hr.mono (by decide)) (by rfl) Dcheck_passage.g Dcheck_passage.F.kp Dcheck_passage.b .nil pass0 (pa_cons (pv 0) pa_nil)))
  (pss_cons (ps_set (i := 1) scgaps.nd rfl (Or.inl rfl) (pe_call Grun_pairs (hr.mono (by decide)) (by rfl) Drun_pairs.g Drun_pairs.F.kp Drun_pairs.b .nil pass0 (pa_cons (pe_fld (pv 0) rfl) (pa_cons (pe_fld (pv 0) rfl) pa_nil))))
  (pss_cons (ps_setLc (i := 2) (own := [("before", 3), ("run", 4)]) (g := (gTup K 2 (gCons (gName 3) (gCons (gName 4) gNil))))  rfl scgaps.nd rfl rfl (sw_true rfl rfl rfl (by decide +kernel)) (pi_list (pv 1)) (blkOk_by (N := ["passage", "pairs", "found", "before", "run"]) (sc := defScope s_gaps) (by decide +kernel)) (fun _ _ _ _ _ => (pg_tup rfl (pgs_cons (pg_name (i := 3) scgaps.nd rfl (Or.inl rfl)) (pgs_cons (pg_name (i := 4) scgaps.nd rfl (Or.inl rfl)) pgs_nil)))) (fun _ _ _ _ _ => pts_one (pt_cmpR op_lt (pe_op op_add (pe_call Glast_arrival (hr.mono (by decide)) (by rfl) Dlast_arrival.g Dlast_arrival.F.kp Dlast_arrival.b .nil pass0 (pa_cons (pv 3) pa_nil)) pe_int) (pe_ix (r := rIxT K) (by exact ix_tup) (pv 4) pe_int (fun _ _ => rfl)) (nomark _))) (fun _ _ _ _ _ => (pe_tup (pa_cons (pe_op op_add (pe_call Glast_arrival (hr.mono (by decide)) (by rfl) Dlast_arrival.g Dlast_arrival.F.kp Dlast_arrival.b .nil pass0 (pa_cons (pv 3) pa_nil)) pe_int) (pa_cons (pe_op op_sub (pe_ix (r := rIxT K) (by exact ix_tup) (pv 4) pe_int (fun _ _ => rfl)) pe_int) pa_nil)))))
  (pss_one (ps_ret (pe_call Gascending (hr.mono (by decide)) (by rfl) Dascending.g Dascending.F.kp Dascending.b .nil pass0 (pa_cons (pe_fld (pv 0) rfl) (pa_cons (pv 2) pa_nil)))))))), ?_⟩)
  · obtain ⟨p, c, M, Z, rfl, _⟩ := h; rfl
  · obtain ⟨p, c, M, Z, rfl, hP, hl, hM, q⟩ := h
    obtain ⟨dx, a, hp, hS⟩ := hP.ob
    refine ⟨_, rfl, p, dx, _, rfl, hp, ?_⟩
    refine ⟨_, rfl, p, C, dx, _, _, rfl, hp, TP.cl, TP.nC, fldP_cycle _ _, _, rfl, p, C, dx, _, _, rfl, hp, TP.cl, TP.nR, fldP_runs _ _, c, a, Z, rfl, hS, hP.can.1.ne, hl, fun L ps H1 s1 hL hX => ?_⟩
    refine ⟨_, rfl, L, rfl, ⟨_, SqL.of hL⟩, fun D hD => ?_⟩
    have lps := paired_len hX
    have lpr : (prs c Z).length ≤ Z.length := by unfold prs; rw [List.length_zip]; exact Nat.min_le_right _ _
    refine lc_list (xs := ps) (fun i H' => ∃ ys, Same H1 H' ∧ H' D = some (.lst ys) ∧ Paired (RowAt H') ys ((((prs c Z).take i).filter fun q => decide (Pm.la q.1 + 1 < q.2.2.2)).map fun q => [Pm.la q.1 + 1, q.2.2.2 - 1])) ⟨[], Same.new hD, upd_same, .nil⟩ (fun i H' _ ⟨_, s3, _⟩ => SqL.of (s3 _ _ hL)) ?_ ?_
    · rintro i y H' hy ⟨ys, s3, e3, hY⟩
      have hi := (List.getElem?_eq_some_iff.mp hy).1
      obtain ⟨⟨b, r⟩, hg, t, u, v, rfl, ht, ⟨bu, rfl, hu⟩, ⟨bv, rfl, hv⟩⟩ := paired_at hX hy
      have hu' := s3 _ _ hu
      have hv' := s3 _ _ hv
      have ly := paired_len hY
      have lY : ys.length ≤ 50000 := by
        rw [List.length_map] at ly
        have := List.length_filter_le (fun q : Rn × Rn => decide (Pm.la q.1 + 1 < q.2.2.2)) ((prs c Z).take i)
        rw [List.length_take] at this
        omega
      refine ⟨t, _, rfl, SqT.of (s3 _ _ ht), rfl, _, _, rfl, _, _, rfl, rfl, rfl, ?_⟩
      refine ⟨_, rfl, .ref bu, b, rfl, ⟨bu, rfl, hu'⟩, _, _, rfl, rfl, _, rfl, bv, _, _, _, rfl, rfl, SqT.of hv', atI_nat (j := 2) rfl, _, _, rfl, rfl, _, rfl, ?_⟩
      rw [filt_snoc hg]
      by_cases z : Pm.la b + 1 < r.2.2
      · refine iteY z ?_
        rw [if_pos (decide_eq_true z)]
        refine ⟨_, rfl, .ref bu, b, rfl, ⟨bu, rfl, hu'⟩, _, _, rfl, rfl, _, rfl, bv, _, _, _, rfl, rfl, SqT.of hv', atI_nat (j := 2) rfl, _, _, rfl, rfl, (by show 2 ≤ sizeLine; decide), fun T hT => ?_⟩
        have nTD : D ≠ T := fun e => by rw [← e, e3] at hT; cases hT
        refine ⟨ys, Same.new hT _ _ e3, smallL (by omega), ys ++ [.ref T], fun b' o h => ?_, upd_same, paired_snoc (L2.Paired.mapP hY fun _ _ ⟨b', e', h'⟩ => ⟨b', e', ?_⟩) ⟨T, rfl, by rw [upd_ne nTD.symm]; exact upd_same⟩⟩
        · rw [upd_ne (ne_of_none h hD)]; exact Same.new hT _ _ (s3 _ _ h)
        · rw [upd_ne (ne_of h' e3 (fun z => nomatch z))]; exact Same.new hT _ _ h'
      · refine iteN z ?_
        rw [if_neg (by rw [decide_eq_false z]; decide), List.append_nil]
        exact ⟨ys, s3, e3, hY⟩
    · rintro H' ⟨ys, s3, e3, hY⟩
      rw [List.take_of_length_le (by omega)] at hY
      have sH := s1.trans s3
      refine ⟨_, rfl, p, C, dx, _, _, rfl, sH _ _ hp, TP.cl, TP.nC, fldP_cycle _ _, _, rfl, c, D, ys, gapL c Z, 2, rfl, e3, hY, hP.can.1.c1, hP.le, by decide, by decide, ?_, fun ns hn => ?_, fun D2 ys2 zs H2 s2 hn2 h2 hY2 pm pw => q D2 ys2 zs H2 (sH.trans s2) (sH.free hn2) h2 hY2 pm pw⟩
      · unfold gapL
        rw [List.length_map]
        exact Nat.le_trans (List.length_filter_le _ _) (by omega)
      · obtain ⟨x, hx, rfl⟩ := List.mem_map.mp hn
        have hx' := (List.mem_filter.mp hx).1
        refine ⟨rfl, ?_⟩
        obtain ⟨m2, m1⟩ := prs_mem hP.can.1.ne x hx'
        have e30 := hP.le
        have k30 : 10 * (10 : Int) ^ 30 ≤ 10 ^ 200 := by decide +kernel
        have k200 : 10 * (10 : Int) ^ 200 ≤ 10 ^ 300 := by decide +kernel
        have c1 := hP.can.1.c1
        rcases m1 with ⟨l, hl1, e⟩ | hl1
        · have a1 := can_rng hP.can l hl1
          have a2 := hP.ba l hl1
          have f1 : x.1.2.1 = l.2.1 + -c := by rw [e]; rfl
          have f2 : Pm.la x.1 = Pm.la l + -c := by rw [e]; exact Pm.la_mv ..
          have f3 : Pm.la l = l.2.2 + l.2.1 - l.1 := rfl
          unfold Fit
          show -(10 ^ 300) ≤ Pm.la x.1 + 1 ∧ Pm.la x.1 + 1 ≤ 10 ^ 300
          omega
        · have a1 := can_rng hP.can _ hl1
          have a2 := hP.ba _ hl1
          have f3 : Pm.la x.1 = x.1.2.2 + x.1.2.1 - x.1.1 := rfl
          unfold Fit
          show -(10 ^ 300) ≤ Pm.la x.1 + 1 ∧ Pm.la x.1 + 1 ≤ 10 ^ 300
          omega
end
end Gr

set_option Elab.async false
set_option linter.all false
set_option pp.deepTerms false
set_option pp.maxSteps 3000
set_option maxRecDepth 100000
set_option maxHeartbeats 8000000
set_option exponentiation.threshold 3000
namespace Gr
open PySem PySem.Spec PyProof.Rows L2
open Pm (Rn)
/-! ### runs one behind the other: nothing lies between them -/
/-- a platoon: starts with one arrival, the last of them a last start, another one right ahead -/
def PlatS (g : Int → Int → Prop) (p q y : Int) : Prop := g q y ∧ p < q ∧ (∃ w, g (p - 1) w) ∧ ∀ z w, p ≤ z → z < q → ¬ g z w
theorem plat_of {c : Int} {rs : List Rn} (ok : Pm.Ok c rs) {q : Rn × Rn} (h : q ∈ prs c rs) (l : q.1.2.1 + 1 < q.2.1) : PlatS (Pm.G c rs) (q.1.2.1 + 1) q.2.1 q.2.2.2 := by
  obtain ⟨g1, g2, g3⟩ := prs_G ok h
  exact ⟨g2, l, ⟨_, by rw [show q.1.2.1 + 1 - 1 = q.1.2.1 by omega]; exact g1⟩, fun z w a b => g3 z w (by omega) b⟩
theorem plat_in {c : Int} {rs : List Rn} (ok : Pm.Ok c rs) {p q y : Int} (h : PlatS (Pm.G c rs) p q y) :
    ∃ x ∈ prs c rs, ∃ k : Int, x.1.2.1 + 1 + k * c = p ∧ x.2.1 + k * c = q ∧ x.2.2.2 + k * c = y ∧ x.1.2.1 + 1 < x.2.1 := by
  obtain ⟨⟨r, hr, k, r1, r2, e⟩, lt, ⟨w, s, hs, j, s1, s2, ew⟩, no⟩ := h
  have q0 : q = r.1 + k * c := by
    by_cases z : r.1 + k * c = q
    · exact z.symm
    · exact absurd ⟨r, hr, k, by omega, by omega, rfl⟩ (no (q - 1) (r.2.2 + (q - 1) - r.1) (by omega) (by omega))
  obtain ⟨b, hb⟩ := prs_snd (c := c) hr
  obtain ⟨g1, g2, g3⟩ := prs_G ok hb
  have go := prs_goes ok _ hb
  have lt2 : b.2.1 < r.1 := go.1
  have hc := prs_cons ok _ hb s hs (j - k)
  have e1 : (j - k) * c = j * c - k * c := Int.sub_mul ..
  have hc : s.2.1 + (j - k) * c ≤ b.2.1 ∨ r.1 ≤ s.1 + (j - k) * c := hc
  rw [e1] at hc
  have g1 : Pm.G c rs b.2.1 (Pm.la b) := g1
  have gk := Pm.G_move k g1
  have nb : ¬ p ≤ b.2.1 + k * c := fun z => no _ _ z (by omega) gk
  refine ⟨(b, r), hb, k, ?_, ?_, ?_, ?_⟩
  · show b.2.1 + 1 + k * c = p
    rcases hc with z | z <;> omega
  · show r.1 + k * c = q
    omega
  · show r.2.2 + k * c = y
    omega
  · show b.2.1 + 1 < r.1
    rcases hc with z | z <;> omega
end Gr

set_option Elab.async false
set_option linter.all false
set_option pp.deepTerms false
set_option pp.maxSteps 3000
set_option maxRecDepth 100000
set_option maxHeartbeats 8000000
set_option exponentiation.threshold 3000
namespace Gr
open PySem PySem.Spec PyProof.Rows L2
open Pm (Rn)
/-! ### sorted rows of a set: one list -/
theorem lexL_anti : ∀ xs ys : List Int, xs.length = ys.length → TsO.lexL xs ys = false → TsO.lexL ys xs = false → xs = ys
  | [], [], _, _, _ => rfl
  | x :: xs, y :: ys, l, h1, h2 => by
    unfold TsO.lexL at h1 h2
    rcases Int.lt_trichotomy x y with e | e | e
    · rw [if_neg (by omega), decide_eq_true e] at h1; cases h1
    · subst e
      simp at h1 h2 l
      rw [lexL_anti xs ys l h1 h2]
    · rw [if_neg (by omega), decide_eq_true e] at h2; cases h2
structure IsRows (d : Nat) (S : List Int → Prop) (zs : List (List Int)) : Prop where
  pw : zs.Pairwise fun a b => TsO.lexL b a = false
  nd : zs.Nodup
  mem : ∀ ns, ns ∈ zs ↔ S ns
  len : ∀ ns ∈ zs, ns.length = d
theorem rows_uniq {d : Nat} : ∀ {as bs : List (List Int)} {S : List Int → Prop}, IsRows d S as → IsRows d S bs → as = bs
  | [], [], _, _, _ => rfl
  | [], b :: bs, _, ha, hb => by have := (ha.mem b).mpr ((hb.mem b).mp List.mem_cons_self); cases this
  | a :: as, [], _, ha, hb => by have := (hb.mem a).mpr ((ha.mem a).mp List.mem_cons_self); cases this
  | a :: as, b :: bs, S, ha, hb => by
    have m1 := (hb.mem a).mpr ((ha.mem a).mp List.mem_cons_self)
    have m2 := (ha.mem b).mpr ((hb.mem b).mp List.mem_cons_self)
    have e : a = b := by
      rcases List.mem_cons.mp m1 with e | m1
      · exact e
      · rcases List.mem_cons.mp m2 with e | m2
        · exact e.symm
        · exact lexL_anti a b (by rw [ha.len a List.mem_cons_self, hb.len b List.mem_cons_self]) ((List.pairwise_cons.mp hb.pw).1 a m1) ((List.pairwise_cons.mp ha.pw).1 b m2)
    subst e
    have na := List.nodup_cons.mp ha.nd
    have nb := List.nodup_cons.mp hb.nd
    have t : as = bs := rows_uniq (S := fun ns => S ns ∧ ns ≠ a)
      ⟨(List.pairwise_cons.mp ha.pw).2, na.2, fun ns => ⟨fun h => ⟨(ha.mem ns).mp (List.mem_cons_of_mem _ h), fun e => na.1 (e ▸ h)⟩, fun h => by
        rcases List.mem_cons.mp ((ha.mem ns).mpr h.1) with e | m
        · exact absurd e h.2
        · exact m⟩, fun ns h => ha.len ns (List.mem_cons_of_mem _ h)⟩
      ⟨(List.pairwise_cons.mp hb.pw).2, nb.2, fun ns => ⟨fun h => ⟨(hb.mem ns).mp (List.mem_cons_of_mem _ h), fun e => nb.1 (e ▸ h)⟩, fun h => by
        rcases List.mem_cons.mp ((hb.mem ns).mpr h.1) with e | m
        · exact absurd e h.2
        · exact m⟩, fun ns h => hb.len ns (List.mem_cons_of_mem _ h)⟩
    rw [t]
/-- the platoons that begin in the first cycle -/
def PltSet (c : Int) (g : Int → Int → Prop) (ns : List Int) : Prop := ∃ p q y, ns = [p, q, y] ∧ PlatS g p q y ∧ 0 ≤ p ∧ p < c
theorem prs_nodup {c : Int} {rs : List Rn} (ok : Pm.Ok c rs) : (prs c rs).Pairwise fun a b => a.2 ≠ b.2 := by
  have e : (prs c rs).map Prod.snd = rs := by
    unfold prs
    rw [List.map_snd_zip]
    rw [List.length_cons, List.length_dropLast]
    have : rs.length ≠ 0 := fun e => ok.ne (List.length_eq_zero_iff.mp e)
    omega
  have nd : rs.Nodup := ok.pw.imp_of_mem fun {a b} ha _ h e => by
    have := h.1
    have := ok.fl a ha
    rw [e] at *
    omega
  rw [← e] at nd
  exact List.pairwise_map.mp nd
/-- two pairs a whole number of cycles apart are the same one -/
theorem prs_far {c : Int} {rs : List Rn} (ok : Pm.Ok c rs) {x y : Rn × Rn} (hx : x ∈ prs c rs) (hy : y ∈ prs c rs) {k : Int} (e : x.2.1 + k * c = y.2.1) : x.2 = y.2 := by
  obtain ⟨mx, _⟩ := prs_mem ok.ne x hx
  obtain ⟨my, _⟩ := prs_mem ok.ne y hy
  have fx := ok.fl _ mx
  have fy := ok.fl _ my
  rcases ok.tri2 mx my k 0 with ⟨h, _⟩ | h | h
  · exact h
  · have := h.1; simp only [Pm.mv1, Pm.mv2] at this; omega
  · have := h.1; simp only [Pm.mv1, Pm.mv2] at this; omega
theorem plat_move {c : Int} {rs : List Rn} {p q y : Int} (j : Int) (h : PlatS (Pm.G c rs) p q y) : PlatS (Pm.G c rs) (p + j * c) (q + j * c) (y + j * c) := by
  obtain ⟨h1, h2, ⟨w, h3⟩, h4⟩ := h
  refine ⟨Pm.G_move j h1, by omega, ⟨w + j * c, ?_⟩, fun z w a b g => ?_⟩
  · have := Pm.G_move j h3
    rwa [show p - 1 + j * c = p + j * c - 1 by omega] at this
  · have := Pm.G_move (-j) g
    rw [Int.neg_mul] at this
    exact h4 _ _ (by omega) (by omega) this
theorem plt_rows {c : Int} {rs : List Rn} (ok : Pm.Ok c rs) {zs : List (List Int)} (pm : zs.Perm ((pltL c rs).map (homeL c))) (pw : zs.Pairwise fun a b => TsO.lexL b a = false) : IsRows 3 (PltSet c (Pm.G c rs)) zs := by
  have c1 := ok.c1
  have hm : ∀ ns, ns ∈ zs ↔ ∃ x ∈ prs c rs, x.1.2.1 + 1 < x.2.1 ∧ ns = homeL c [x.1.2.1 + 1, x.2.1, x.2.2.2] := fun ns => by
    rw [pm.mem_iff]
    unfold pltL
    simp only [List.mem_map, List.mem_filter, decide_eq_true_eq]
    constructor
    · rintro ⟨_, ⟨x, ⟨hx, l⟩, rfl⟩, rfl⟩; exact ⟨x, hx, l, rfl⟩
    · rintro ⟨x, hx, l, rfl⟩; exact ⟨_, ⟨x, ⟨hx, l⟩, rfl⟩, rfl⟩
  refine ⟨pw, ?_, fun ns => ?_, fun ns h => ?_⟩
  · rw [pm.nodup_iff]
    unfold pltL
    rw [List.map_map]
    unfold List.Nodup
    rw [List.pairwise_map]
    refine List.Pairwise.imp_of_mem ?_ (List.Pairwise.sublist List.filter_sublist (prs_nodup ok))
    intro x y hx hy ne e
    have hx := (List.mem_filter.mp hx).1
    have hy := (List.mem_filter.mp hy).1
    have e2 : x.2.1 + -((x.1.2.1 + 1) / c * c) = y.2.1 + -((y.1.2.1 + 1) / c * c) := (List.cons.inj (List.cons.inj e).2).1
    refine ne (prs_far ok hx hy (k := (y.1.2.1 + 1) / c - (x.1.2.1 + 1) / c) ?_)
    rw [Int.sub_mul]; omega
  · rw [hm]
    constructor
    · rintro ⟨x, hx, l, rfl⟩
      have e := Int.emod_add_mul_ediv (x.1.2.1 + 1) c
      have r0 := Int.emod_nonneg (x.1.2.1 + 1) (show c ≠ 0 by omega)
      have r1 := Int.emod_lt_of_pos (x.1.2.1 + 1) (show 0 < c by omega)
      rw [Int.mul_comm] at e
      refine ⟨_, _, _, rfl, ?_, ?_, ?_⟩
      · have h := plat_move (-((x.1.2.1 + 1) / c)) (plat_of ok hx l)
        rw [Int.neg_mul] at h
        exact h
      · show 0 ≤ x.1.2.1 + 1 + -((x.1.2.1 + 1) / c * c); omega
      · show x.1.2.1 + 1 + -((x.1.2.1 + 1) / c * c) < c; omega
    · rintro ⟨p, q, y, rfl, h, p0, p1⟩
      obtain ⟨x, hx, k, e1, e2, e3, l⟩ := plat_in ok h
      refine ⟨x, hx, l, ?_⟩
      have e : (x.1.2.1 + 1) / c * c = -(k * c) := by
        have : x.1.2.1 + 1 = p + -k * c := by rw [Int.neg_mul]; omega
        rw [this, Int.add_mul_ediv_right _ _ (by omega), Int.ediv_eq_zero_of_lt p0 p1, Int.zero_add, Int.neg_mul]
      show [p, q, y] = [x.1.2.1 + 1 + -((x.1.2.1 + 1) / c * c), x.2.1 + -((x.1.2.1 + 1) / c * c), x.2.2.2 + -((x.1.2.1 + 1) / c * c)]
      rw [e, ← e1, ← e2, ← e3, Int.neg_neg]
  · obtain ⟨x, hx, l, rfl⟩ := (hm ns).mp h
    rfl
end Gr

set_option Elab.async false
set_option linter.all false
set_option pp.deepTerms false
set_option pp.maxSteps 3000
set_option maxRecDepth 100000
set_option maxHeartbeats 8000000
set_option exponentiation.threshold 3000
namespace Gr
open PySem PySem.Spec PyProof.Rows L2
open Pm (Rn)
/-! ### gaps -/
theorem prs_consA {c : Int} {rs : List Rn} (ok : Pm.Ok c rs) : ∀ q ∈ prs c rs, ∀ s ∈ rs, ∀ k : Int, Pm.la s + k * c ≤ Pm.la q.1 ∨ q.2.2.2 ≤ s.2.2 + k * c := by
  rintro ⟨b, r⟩ hq s hs k
  obtain ⟨pre, l, rfl⟩ : ∃ pre l, rs = pre ++ [l] := by
    rcases List.eq_nil_or_concat rs with e | ⟨pre, l, e⟩
    · exact absurd e ok.ne
    · exact ⟨pre, l, by rw [e, List.concat_eq_append]⟩
  unfold prs at hq
  rw [getLastD_snoc, dropLast_snoc] at hq
  obtain ⟨j, hj⟩ := List.mem_iff_getElem?.mp hq
  obtain ⟨j1, j2⟩ := List.getElem?_zip_eq_some.mp hj
  have h1 : (Pm.mv (-c) l :: pre)[j]? = some b := j1
  have h2 : (pre ++ [l])[j]? = some r := j2
  clear j1 j2
  show Pm.la s + k * c ≤ Pm.la b ∨ r.2.2 ≤ s.2.2 + k * c
  obtain ⟨i, hi⟩ := List.mem_iff_getElem?.mp hs
  have hr := List.mem_of_getElem? h2
  have fr : r.2.2 ≤ Pm.la r := by have := ok.fl r hr; unfold Pm.la; omega
  have fs : s.2.2 ≤ Pm.la s := by have := ok.fl s hs; unfold Pm.la; omega
  have ml : l ∈ pre ++ [l] := by simp
  have fl : l.2.2 ≤ Pm.la l := by have := ok.fl l ml; unfold Pm.la; omega
  have gl : (pre ++ [l])[pre.length]? = some l := by rw [List.getElem?_append_right (Nat.le_refl _), Nat.sub_self]; rfl
  cases j with
  | zero =>
    cases h1
    rw [Pm.la_mv]
    show Pm.la s + k * c ≤ Pm.la l + -c ∨ r.2.2 ≤ s.2.2 + k * c
    rcases Int.lt_trichotomy k 0 with k0 | k0 | k0
    · left
      by_cases k1 : k = -1
      · subst k1
        have : Pm.la s ≤ Pm.la l := by
          have hl : i < (pre ++ [l]).length := (List.getElem?_eq_some_iff.mp hi).1
          rw [List.length_append, List.length_singleton] at hl
          by_cases e : i = pre.length
          · subst e; rw [gl] at hi; cases hi; exact Int.le_refl _
          · have := (pw_get ok.pw hi gl (by omega)).2; omega
        omega
      · have := (ok.later hs ml (show k < -1 by omega)).2
        simp only [Pm.mv3, Pm.la_mv] at this
        omega
    · right
      subst k0
      by_cases e : i = 0
      · subst e; rw [h2] at hi; cases hi; omega
      · have := (pw_get ok.pw h2 hi (by omega)).2; omega
    · right
      have := (ok.later hr hs k0).2
      simp only [Pm.mv3, Pm.la_mv] at this
      omega
  | succ j =>
    have hb : (pre ++ [l])[j]? = some b := by
      have := (List.getElem?_eq_some_iff.mp h1).1
      rw [List.getElem?_cons_succ] at h1
      rw [List.getElem?_append_left (List.getElem?_eq_some_iff.mp h1).1]; exact h1
    have mb := List.mem_of_getElem? hb
    have fb : b.2.2 ≤ Pm.la b := by have := ok.fl b mb; unfold Pm.la; omega
    rcases Int.lt_trichotomy k 0 with k0 | k0 | k0
    · left
      have := (ok.later hs mb k0).2
      simp only [Pm.mv3, Pm.la_mv] at this
      omega
    · subst k0
      rcases Nat.lt_trichotomy i j with e | e | e
      · left; have := (pw_get ok.pw hi hb e).2; omega
      · left; subst e; rw [hb] at hi; cases hi; omega
      · right
        by_cases e2 : i = j + 1
        · subst e2; rw [h2] at hi; cases hi; omega
        · have := (pw_get ok.pw h2 hi (by omega)).2; omega
    · right
      have := (ok.later hr hs k0).2
      simp only [Pm.mv3, Pm.la_mv] at this
      omega
/-- a gap: moments that nobody arrives at, between two arrivals -/
def GapS (g : Int → Int → Prop) (lo hi : Int) : Prop := lo ≤ hi ∧ (∃ z, g z (lo - 1)) ∧ (∃ z, g z (hi + 1)) ∧ ∀ z w, lo ≤ w → w ≤ hi → ¬ g z w
def GapSet (c : Int) (g : Int → Int → Prop) (ns : List Int) : Prop := ∃ lo hi, ns = [lo, hi] ∧ GapS g lo hi ∧ 0 ≤ lo ∧ lo < c
theorem gap_of {c : Int} {rs : List Rn} (ok : Pm.Ok c rs) {q : Rn × Rn} (h : q ∈ prs c rs) (l : Pm.la q.1 + 1 < q.2.2.2) : GapS (Pm.G c rs) (Pm.la q.1 + 1) (q.2.2.2 - 1) := by
  obtain ⟨g1, g2, _⟩ := prs_G ok h
  refine ⟨by omega, ⟨_, by rw [show Pm.la q.1 + 1 - 1 = Pm.la q.1 by omega]; exact g1⟩, ⟨_, by rw [show q.2.2.2 - 1 + 1 = q.2.2.2 by omega]; exact g2⟩, ?_⟩
  rintro z w a b ⟨s, hs, k, h1, h2, e⟩
  have hl : Pm.la s = s.2.2 + s.2.1 - s.1 := rfl
  rcases prs_consA ok q h s hs k with e2 | e2 <;> omega
theorem gap_in {c : Int} {rs : List Rn} (ok : Pm.Ok c rs) {lo hi : Int} (h : GapS (Pm.G c rs) lo hi) :
    ∃ x ∈ prs c rs, ∃ k : Int, Pm.la x.1 + 1 + k * c = lo ∧ x.2.2.2 - 1 + k * c = hi ∧ Pm.la x.1 + 1 < x.2.2.2 := by
  obtain ⟨le, ⟨z0, s, hs, j, s1, s2, es⟩, ⟨z1, r, hr, k, r1, r2, er⟩, no⟩ := h
  have q0 : hi + 1 = r.2.2 + k * c := by
    by_cases z : z1 = r.1 + k * c
    · omega
    · exact absurd ⟨r, hr, k, by omega, by omega, by omega⟩ (no (z1 - 1) hi le (Int.le_refl _))
  obtain ⟨b, hb⟩ := prs_snd (c := c) hr
  obtain ⟨g1, g2, g3⟩ := prs_G ok hb
  have go := prs_goes ok _ hb
  have lt2 : Pm.la b < r.2.2 := go.2
  have hc := prs_consA ok _ hb s hs (j - k)
  have e1 : (j - k) * c = j * c - k * c := Int.sub_mul ..
  have hc : Pm.la s + (j - k) * c ≤ Pm.la b ∨ r.2.2 ≤ s.2.2 + (j - k) * c := hc
  rw [e1] at hc
  have hl : Pm.la s = s.2.2 + s.2.1 - s.1 := rfl
  have g1 : Pm.G c rs b.2.1 (Pm.la b) := g1
  have gk := Pm.G_move k g1
  have nb : ¬ lo ≤ Pm.la b + k * c := fun z => no _ _ z (by omega) gk
  refine ⟨(b, r), hb, k, ?_, ?_, ?_⟩
  · show Pm.la b + 1 + k * c = lo
    rcases hc with z | z <;> omega
  · show r.2.2 - 1 + k * c = hi
    omega
  · show Pm.la b + 1 < r.2.2
    rcases hc with z | z <;> omega
theorem gap_move {c : Int} {rs : List Rn} {lo hi : Int} (j : Int) (h : GapS (Pm.G c rs) lo hi) : GapS (Pm.G c rs) (lo + j * c) (hi + j * c) := by
  obtain ⟨h1, ⟨z0, h2⟩, ⟨z1, h3⟩, h4⟩ := h
  refine ⟨by omega, ⟨z0 + j * c, ?_⟩, ⟨z1 + j * c, ?_⟩, fun z w a b g => ?_⟩
  · have := Pm.G_move j h2
    rwa [show lo - 1 + j * c = lo + j * c - 1 by omega] at this
  · have := Pm.G_move j h3
    rwa [show hi + 1 + j * c = hi + j * c + 1 by omega] at this
  · have := Pm.G_move (-j) g
    rw [Int.neg_mul] at this
    exact h4 _ _ (by omega) (by omega) this
theorem prs_farA {c : Int} {rs : List Rn} (ok : Pm.Ok c rs) {x y : Rn × Rn} (hx : x ∈ prs c rs) (hy : y ∈ prs c rs) {k : Int} (e : x.2.2.2 + k * c = y.2.2.2) : x.2 = y.2 := by
  obtain ⟨mx, _⟩ := prs_mem ok.ne x hx
  obtain ⟨my, _⟩ := prs_mem ok.ne y hy
  have fx := ok.fl _ mx
  have fy := ok.fl _ my
  have lx : Pm.la x.2 = x.2.2.2 + x.2.2.1 - x.2.1 := rfl
  have ly : Pm.la y.2 = y.2.2.2 + y.2.2.1 - y.2.1 := rfl
  rcases ok.tri2 mx my k 0 with ⟨h, _⟩ | h | h
  · exact h
  · have := h.2; simp only [Pm.mv3, Pm.la_mv] at this; omega
  · have := h.2; simp only [Pm.mv3, Pm.la_mv] at this; omega
theorem gap_rows {c : Int} {rs : List Rn} (ok : Pm.Ok c rs) {zs : List (List Int)} (pm : zs.Perm ((gapL c rs).map (homeL c))) (pw : zs.Pairwise fun a b => TsO.lexL b a = false) : IsRows 2 (GapSet c (Pm.G c rs)) zs := by
  have c1 := ok.c1
  have hm : ∀ ns, ns ∈ zs ↔ ∃ x ∈ prs c rs, Pm.la x.1 + 1 < x.2.2.2 ∧ ns = homeL c [Pm.la x.1 + 1, x.2.2.2 - 1] := fun ns => by
    rw [pm.mem_iff]
    unfold gapL
    simp only [List.mem_map, List.mem_filter, decide_eq_true_eq]
    constructor
    · rintro ⟨_, ⟨x, ⟨hx, l⟩, rfl⟩, rfl⟩; exact ⟨x, hx, l, rfl⟩
    · rintro ⟨x, hx, l, rfl⟩; exact ⟨_, ⟨x, ⟨hx, l⟩, rfl⟩, rfl⟩
  refine ⟨pw, ?_, fun ns => ?_, fun ns h => ?_⟩
  · rw [pm.nodup_iff]
    unfold gapL
    rw [List.map_map]
    unfold List.Nodup
    rw [List.pairwise_map]
    refine List.Pairwise.imp_of_mem ?_ (List.Pairwise.sublist List.filter_sublist (prs_nodup ok))
    intro x y hx hy ne e
    have hx := (List.mem_filter.mp hx).1
    have hy := (List.mem_filter.mp hy).1
    have e2 : x.2.2.2 - 1 + -((Pm.la x.1 + 1) / c * c) = y.2.2.2 - 1 + -((Pm.la y.1 + 1) / c * c) := (List.cons.inj (List.cons.inj e).2).1
    refine ne (prs_farA ok hx hy (k := (Pm.la y.1 + 1) / c - (Pm.la x.1 + 1) / c) ?_)
    rw [Int.sub_mul]; omega
  · rw [hm]
    constructor
    · rintro ⟨x, hx, l, rfl⟩
      have e := Int.emod_add_mul_ediv (Pm.la x.1 + 1) c
      have r0 := Int.emod_nonneg (Pm.la x.1 + 1) (show c ≠ 0 by omega)
      have r1 := Int.emod_lt_of_pos (Pm.la x.1 + 1) (show 0 < c by omega)
      rw [Int.mul_comm] at e
      refine ⟨_, _, rfl, ?_, ?_, ?_⟩
      · have h := gap_move (-((Pm.la x.1 + 1) / c)) (gap_of ok hx l)
        rw [Int.neg_mul] at h
        exact h
      · show 0 ≤ Pm.la x.1 + 1 + -((Pm.la x.1 + 1) / c * c); omega
      · show Pm.la x.1 + 1 + -((Pm.la x.1 + 1) / c * c) < c; omega
    · rintro ⟨p, q, rfl, h, p0, p1⟩
      obtain ⟨x, hx, k, e1, e2, l⟩ := gap_in ok h
      refine ⟨x, hx, l, ?_⟩
      have e : (Pm.la x.1 + 1) / c * c = -(k * c) := by
        have : Pm.la x.1 + 1 = p + -k * c := by rw [Int.neg_mul]; omega
        rw [this, Int.add_mul_ediv_right _ _ (by omega), Int.ediv_eq_zero_of_lt p0 p1, Int.zero_add, Int.neg_mul]
      show [p, q] = [Pm.la x.1 + 1 + -((Pm.la x.1 + 1) / c * c), x.2.2.2 - 1 + -((Pm.la x.1 + 1) / c * c)]
      rw [e, ← e1, ← e2, Int.neg_neg]
  · obtain ⟨x, hx, l, rfl⟩ := (hm ns).mp h
    rfl
end Gr

set_option Elab.async false
set_option linter.all false
set_option pp.deepTerms false
set_option pp.maxSteps 3000
set_option maxRecDepth 100000
set_option maxHeartbeats 8000000
set_option exponentiation.threshold 3000
namespace Gr
open PySem PySem.Spec PyProof.Rows L2
open Pm (Rn)
theorem plat_is {c : Int} {rs : List Rn} (ok : Pm.Ok c rs) {p q y : Int} (h : PlatS (Pm.G c rs) p q y) : Pm.F c rs (p - 1) < Pm.F c rs p ∧ (∀ t, p ≤ t → t ≤ q → Pm.F c rs t = y) ∧ Pm.F c rs q < Pm.F c rs (q + 1) := by
  obtain ⟨h1, h2, h3, h4⟩ := h
  refine ⟨?_, fun t a b => F_next ok h1 b fun z' y' a' b' => h4 z' y' (by omega) b', (F_grows ok q).mp ⟨_, h1⟩⟩
  have := (F_grows ok (p - 1)).mp h3
  rwa [show p - 1 + 1 = p by omega] at this
theorem plat_uniq {c : Int} {rs : List Rn} (ok : Pm.Ok c rs) {p q y q' y' : Int} (h : PlatS (Pm.G c rs) p q y) (h' : PlatS (Pm.G c rs) p q' y') : q = q' ∧ y = y' := by
  have a := plat_is ok h
  have b := plat_is ok h'
  have e : y = y' := (a.2.1 p (Int.le_refl _) (by have := h.2.1; omega)).symm.trans (b.2.1 p (Int.le_refl _) (by have := h'.2.1; omega))
  refine ⟨?_, e⟩
  rcases Int.lt_trichotomy q q' with l | l | l
  · exact absurd h.1 (h'.2.2.2 q y (by have := h.2.1; omega) l)
  · exact l
  · exact absurd h'.1 (h.2.2.2 q' y' (by have := h'.2.1; omega) l)
end Gr

set_option Elab.async false
set_option linter.all false
set_option pp.deepTerms false
set_option pp.maxSteps 3000
set_option maxRecDepth 100000
set_option maxHeartbeats 8000000
set_option exponentiation.threshold 3000
namespace Gr
open PySem PySem.Spec PyProof.Rows L2
open Pm (Rn)
/-! ### sums over neighbours -/
theorem zip_sum {g : Rn → Int} : ∀ (as bs : List Rn), as.length = bs.length → ((as.zip bs).map fun q => g q.2 - g q.1).sum = (bs.map g).sum - (as.map g).sum
  | [], [], _ => rfl
  | [], _ :: _, h => by cases h
  | _ :: _, [], h => by cases h
  | a :: as, b :: bs, h => by
    have ih := zip_sum (g := g) as bs (by simpa using h)
    simp only [List.zip_cons_cons, List.map_cons, List.sum_cons]
    omega
theorem prs_sum {c : Int} {rs : List Rn} (ne : rs ≠ []) {g : Rn → Int} (hg : ∀ t r, g (Pm.mv t r) = g r) : ((prs c rs).map fun q => g q.2 - g q.1).sum = 0 := by
  obtain ⟨pre, l, rfl⟩ : ∃ pre l, rs = pre ++ [l] := by
    rcases List.eq_nil_or_concat rs with e | ⟨pre, l, e⟩
    · exact absurd e ne
    · exact ⟨pre, l, by rw [e, List.concat_eq_append]⟩
  unfold prs
  rw [getLastD_snoc, dropLast_snoc, zip_sum _ _ (by simp)]
  rw [List.map_append, List.sum_append, List.map_cons, List.map_cons, List.map_nil, List.sum_cons, List.sum_cons, hg]
  simp only [List.sum_nil]
  omega
theorem sum_subm {α : Type} (f g : α → Int) : ∀ l : List α, (l.map f).sum - (l.map g).sum = (l.map fun x => f x - g x).sum
  | [] => rfl
  | a :: l => by
    have := sum_subm f g l
    simp only [List.map_cons, List.sum_cons]
    omega
theorem filt_sum {α : Type} (A B : α → Int) : ∀ l : List α, (∀ x ∈ l, A x ≤ B x) → ((l.filter fun x => decide (A x < B x)).map fun x => B x - A x).sum = (l.map fun x => B x - A x).sum
  | [], _ => rfl
  | a :: l, h => by
    have ih := filt_sum A B l fun x hx => h x (List.mem_cons_of_mem _ hx)
    have ha := h a List.mem_cons_self
    by_cases z : A a < B a
    · rw [List.filter_cons_of_pos (by simpa using z)]
      simp only [List.map_cons, List.sum_cons]
      omega
    · rw [List.filter_cons_of_neg (by simpa using z)]
      simp only [List.map_cons, List.sum_cons]
      omega
theorem perm_sum {as bs : List Int} (h : as.Perm bs) : as.sum = bs.sum := by
  induction h with
  | nil => rfl
  | cons x _ ih => simp only [List.sum_cons]; omega
  | swap x y l => simp only [List.sum_cons]; omega
  | trans _ _ i1 i2 => omega
def wide (ns : List Int) : Int := ns.getD 1 0 - ns.getD 0 0
theorem wide_home (c : Int) (ns : List Int) (h : 2 ≤ ns.length) : wide (homeL c ns) = wide ns := by
  match ns, h with
  | a :: b :: r, _ => unfold wide homeL; simp; omega
theorem wide_map (c : Int) : ∀ l : List (List Int), (∀ ns ∈ l, 2 ≤ ns.length) → (l.map (homeL c)).map wide = l.map wide
  | [], _ => rfl
  | a :: l, h => by
    rw [List.map_cons, List.map_cons, List.map_cons, wide_home c a (h a List.mem_cons_self), wide_map c l fun x hx => h x (List.mem_cons_of_mem _ hx)]
theorem sums_eq {c : Int} {Z : List Rn} (ok : Pm.Ok c Z) {z1 z2 : List (List Int)} (p1 : z1.Perm ((pltL c Z).map (homeL c))) (p2 : z2.Perm ((gapL c Z).map (homeL c))) : (z1.map wide).sum = (z2.map fun ns => wide ns + 1).sum := by
  have l1 : ∀ ns ∈ pltL c Z, 2 ≤ ns.length := fun ns h => by
    unfold pltL at h; obtain ⟨q, _, rfl⟩ := List.mem_map.mp h; simp
  have l2 : ∀ ns ∈ gapL c Z, 2 ≤ ns.length := fun ns h => by
    unfold gapL at h; obtain ⟨q, _, rfl⟩ := List.mem_map.mp h; simp
  have e1 : (z1.map wide).sum = ((prs c Z).map fun q => q.2.1 - (q.1.2.1 + 1)).sum := by
    rw [perm_sum (p1.map wide), wide_map c _ l1]
    unfold pltL
    rw [List.map_map]
    exact filt_sum (fun q : Rn × Rn => q.1.2.1 + 1) (fun q => q.2.1) _ fun q hq => by have := (prs_goes ok q hq).1; omega
  have e2 : (z2.map fun ns => wide ns + 1).sum = ((prs c Z).map fun q => q.2.2.2 - (Pm.la q.1 + 1)).sum := by
    have m : (z2.map fun ns => wide ns + 1) = (z2.map wide).map fun x => x + 1 := by rw [List.map_map]; rfl
    rw [m, perm_sum ((p2.map wide).map _), wide_map c _ l2]
    unfold gapL
    rw [List.map_map, List.map_map]
    refine Eq.trans (congrArg List.sum (List.map_congr_left fun q _ => ?_)) (filt_sum (fun q : Rn × Rn => Pm.la q.1 + 1) (fun q => q.2.2.2) _ fun q hq => by have := (prs_goes ok q hq).2; omega)
    show (q.2.2.2 - 1) - (Pm.la q.1 + 1) + 1 = _
    omega
  have e3 := prs_sum (c := c) ok.ne (g := fun r : Rn => r.1 - r.2.2) fun t r => by simp only [Pm.mv1, Pm.mv3]; omega
  have e4 := sum_subm (fun q : Rn × Rn => q.2.1 - (q.1.2.1 + 1)) (fun q => q.2.2.2 - (Pm.la q.1 + 1)) (prs c Z)
  have e5 : ((prs c Z).map fun q => (q.2.1 - (q.1.2.1 + 1)) - (q.2.2.2 - (Pm.la q.1 + 1))) = ((prs c Z).map fun q => (q.2.1 - q.2.2.2) - (q.1.1 - q.1.2.2)) := List.map_congr_left fun q _ => by unfold Pm.la; omega
  rw [e5] at e4
  omega
/-! ### platoons and gaps of the latest starts -/
theorem lat_dom {c : Int} {rs : List Rn} (ok : Pm.Ok c rs) (z : Int) : (∃ x, Pm.G c (latL c rs) z x) ↔ ∃ w, Pm.G c rs w (z + 1) := by
  constructor
  · rintro ⟨x, h⟩
    have e := (lat_one ok h).2
    obtain ⟨w, _, g, _⟩ := ok.F_is (x + 1)
    exact ⟨w, by rw [← e]; exact g⟩
  · rintro ⟨w, h⟩
    obtain ⟨x, hx⟩ := lat_two ok h
    exact ⟨x, by rw [show z = z + 1 - 1 by omega]; exact hx⟩
theorem lat_im {c : Int} {rs : List Rn} (ok : Pm.Ok c rs) (x : Int) : (∃ z, Pm.G c (latL c rs) z x) ↔ ∃ v, Pm.G c rs x v := by
  constructor
  · rintro ⟨z, h⟩; exact (lat_one ok h).1
  · rintro ⟨v, hv⟩
    obtain ⟨w, _, g, _⟩ := ok.F_is (x + 1)
    obtain ⟨x', hx⟩ := lat_two ok g
    obtain ⟨⟨v', hv'⟩, e⟩ := lat_one ok hx
    have g1 := (F_grows ok x).mp ⟨v, hv⟩
    have g2 := (F_grows ok x').mp ⟨v', hv'⟩
    rcases Int.lt_trichotomy x' x with h | h | h
    · have := F_mono ok (show x' + 1 ≤ x by omega); omega
    · subst h; exact ⟨_, hx⟩
    · have := F_mono ok (show x + 1 ≤ x' by omega); omega
theorem plat_lat {c : Int} {rs : List Rn} (ok : Pm.Ok c rs) {p q : Int} : (∃ y, PlatS (Pm.G c (latL c rs)) p q y) ↔ GapS (Pm.G c rs) (p + 1) q := by
  constructor
  · rintro ⟨y, h1, h2, h3, h4⟩
    refine ⟨by omega, ?_, (lat_dom ok q).mp ⟨y, h1⟩, fun z w a b g => ?_⟩
    · have := (lat_dom ok (p - 1)).mp h3
      rw [show p - 1 + 1 = p + 1 - 1 by omega] at this; exact this
    · obtain ⟨x, hx⟩ := lat_two ok g
      exact h4 _ _ (by omega) (by omega) hx
  · rintro ⟨h1, h2, h3, h4⟩
    obtain ⟨y, hy⟩ := (lat_dom ok q).mpr h3
    refine ⟨y, hy, by omega, (lat_dom ok (p - 1)).mpr (by rw [show p - 1 + 1 = p + 1 - 1 by omega]; exact h2), fun z w a b g => ?_⟩
    obtain ⟨u, hu⟩ := (lat_dom ok z).mp ⟨w, g⟩
    exact h4 _ _ (by omega) (by omega) hu
theorem gap_lat {c : Int} {rs : List Rn} (ok : Pm.Ok c rs) {lo hi : Int} : GapS (Pm.G c (latL c rs)) lo hi ↔ ∃ y, PlatS (Pm.G c rs) lo (hi + 1) y := by
  constructor
  · rintro ⟨h1, h2, h3, h4⟩
    obtain ⟨y, hy⟩ := (lat_im ok _).mp h3
    refine ⟨y, hy, by omega, (lat_im ok _).mp h2, fun z w a b g => ?_⟩
    obtain ⟨u, hu⟩ := (lat_im ok z).mpr ⟨w, g⟩
    exact h4 _ _ a (by omega) hu
  · rintro ⟨y, h1, h2, h3, h4⟩
    refine ⟨by omega, (lat_im ok _).mpr h3, (lat_im ok _).mpr ⟨y, h1⟩, fun z w a b g => ?_⟩
    obtain ⟨u, hu⟩ := (lat_im ok w).mp ⟨z, g⟩
    exact h4 _ _ a (by omega) hu
theorem lexL_two {a b a' b' : Int} {r r' : List Int} (h : TsO.lexL (a :: b :: r) (a' :: b' :: r') = false) : TsO.lexL [a, b] [a', b'] = false := by
  simp only [TsO.lexL] at h ⊢
  by_cases e : a = a'
  · rw [if_pos e] at h ⊢
    by_cases e2 : b = b'
    · rw [if_pos e2]
    · rw [if_neg e2] at h ⊢; exact h
  · rw [if_neg e] at h ⊢; exact h
/-- what the law makes of a row: shifted by a and b, moved home -/
def sh (c a b : Int) (ns : List Int) : List Int := homeL c [ns.getD 0 0 + a, ns.getD 1 0 + b]
theorem perm_nodup_map {α β : Type} {f : α → β} : ∀ {l : List α}, l.Nodup → (∀ x ∈ l, ∀ y ∈ l, f x = f y → x = y) → (l.map f).Nodup
  | [], _, _ => List.nodup_nil
  | a :: l, nd, h => by
    obtain ⟨n1, n2⟩ := List.nodup_cons.mp nd
    rw [List.map_cons]
    refine List.nodup_cons.mpr ⟨fun m => ?_, perm_nodup_map n2 fun x hx y hy => h x (List.mem_cons_of_mem _ hx) y (List.mem_cons_of_mem _ hy)⟩
    obtain ⟨y, hy, e⟩ := List.mem_map.mp m
    have := h y (List.mem_cons_of_mem _ hy) a List.mem_cons_self e
    exact n1 (this ▸ hy)
theorem mul_rng {c k : Int} (c1 : 1 ≤ c) (h1 : -c < k * c) (h2 : k * c < c) : k * c = 0 := by
  have : k = 0 := by
    rcases Int.lt_trichotomy k 0 with z | z | z
    · have := Int.mul_le_mul_of_nonneg_right (show k ≤ -1 by omega) (show 0 ≤ c by omega); omega
    · exact z
    · have := Int.mul_le_mul_of_nonneg_right (show 1 ≤ k by omega) (show 0 ≤ c by omega); omega
  rw [this, Int.zero_mul]
theorem sh_inj {c a b x y x' y' : Int} (c1 : 1 ≤ c) (h0 : 0 ≤ x) (h1 : x < c) (h0' : 0 ≤ x') (h1' : x' < c) {r r' : List Int} (e : sh c a b (x :: y :: r) = sh c a b (x' :: y' :: r')) : x = x' ∧ y = y' := by
  unfold sh homeL at e
  simp at e
  obtain ⟨e1, e2⟩ := e
  have k := mul_rng (c := c) (k := (x + a) / c - (x' + a) / c) c1 (by rw [Int.sub_mul]; omega) (by rw [Int.sub_mul]; omega)
  rw [Int.sub_mul] at k
  omega
theorem home_mem (c : Int) {x y : Int} (c1 : 1 ≤ c) : ∃ k : Int, homeL c [x, y] = [x + k * c, y + k * c] ∧ 0 ≤ x + k * c ∧ x + k * c < c := by
  have e := Int.emod_add_mul_ediv x c
  have r0 := Int.emod_nonneg x (show c ≠ 0 by omega)
  have r1 := Int.emod_lt_of_pos x (show 0 < c by omega)
  rw [Int.mul_comm c] at e
  refine ⟨-(x / c), ?_, by rw [Int.neg_mul]; omega, by rw [Int.neg_mul]; omega⟩
  unfold homeL
  simp [Int.neg_mul]
def Two (c : Int) (S : Int → Int → Prop) (ns : List Int) : Prop := ∃ p q, ns = [p, q] ∧ S p q ∧ 0 ≤ p ∧ p < c
/-- rows of the law, shifted: a sorted list of the set -/
theorem sh_rows {c a b : Int} (c1 : 1 ≤ c) {d : Nat} {z due : List (List Int)} {S : List Int → Prop} {T : Int → Int → Prop} (hz : IsRows d S z) (hS : ∀ ns, S ns → ∃ x y r, ns = x :: y :: r ∧ 0 ≤ x ∧ x < c)
    (one : ∀ x y r r', S (x :: y :: r) → S (x :: y :: r') → r = r') (hT : ∀ x y, (∃ r k, S ((x + k * c) :: (y + k * c) :: r)) → T (x + a) (y + b)) (hT2 : ∀ p q, T p q → ∀ k : Int, 0 ≤ p - a + k * c → p - a + k * c < c → ∃ r, S ((p - a + k * c) :: (q - b + k * c) :: r))
    (pm : due.Perm (z.map (sh c a b))) (pw : due.Pairwise fun a b => TsO.lexL b a = false) : IsRows 2 (Two c T) due := by
  refine ⟨pw, pm.nodup_iff.mpr (perm_nodup_map hz.nd fun x hx y hy e => ?_), fun ns => ?_, fun ns hn => ?_⟩
  · obtain ⟨x1, y1, r1, rfl, a0, a1⟩ := hS x ((hz.mem x).mp hx)
    obtain ⟨x2, y2, r2, rfl, b0, b1⟩ := hS y ((hz.mem y).mp hy)
    obtain ⟨rfl, rfl⟩ := sh_inj c1 a0 a1 b0 b1 e
    rw [one _ _ _ _ ((hz.mem _).mp hx) ((hz.mem _).mp hy)]
  · rw [pm.mem_iff, List.mem_map]
    constructor
    · rintro ⟨ms, hm, rfl⟩
      have hs := (hz.mem ms).mp hm
      obtain ⟨x, y, r, rfl, a0, a1⟩ := hS ms hs
      obtain ⟨k, e, p0, p1⟩ := home_mem c (x := x + a) (y := y + b) c1
      refine ⟨_, _, e, ?_, p0, p1⟩
      have := hT (x + k * c) (y + k * c) ⟨r, -k, by rw [Int.neg_mul, show x + k * c + -(k * c) = x by omega, show y + k * c + -(k * c) = y by omega]; exact hs⟩
      rw [show x + a + k * c = x + k * c + a by omega, show y + b + k * c = y + k * c + b by omega]
      exact this
    · rintro ⟨p, q, rfl, t, p0, p1⟩
      obtain ⟨k, e, q0, q1⟩ := home_mem c (x := p - a) (y := q - b) c1
      obtain ⟨r, hr⟩ := hT2 p q t k q0 q1
      refine ⟨_, (hz.mem _).mpr hr, ?_⟩
      unfold sh
      show homeL c [p - a + k * c + a, q - b + k * c + b] = [p, q]
      unfold homeL
      have e1 : (p - a + k * c + a) / c = k := by
        rw [show p - a + k * c + a = p + k * c by omega, Int.add_mul_ediv_right _ _ (by omega), Int.ediv_eq_zero_of_lt p0 p1, Int.zero_add]
      simp [e1]
      omega
  · obtain ⟨ms, hm, rfl⟩ := List.mem_map.mp (pm.mem_iff.mp hn)
    rfl
def RowsL (H : Hp) (A : Addr) (zs : List (List Int)) : Prop := ∃ ys, H A = some (.lst ys) ∧ Paired (RowAt H) ys zs
theorem RowsL.keep {H H' : Hp} {A : Addr} {zs : List (List Int)} (kp : ∀ b xs, H b = some (.tup xs) → H' b = some (.tup xs)) (e : ∀ ys, H A = some (.lst ys) → H' A = some (.lst ys)) (h : RowsL H A zs) : RowsL H' A zs := by
  obtain ⟨ys, h1, h2⟩ := h
  exact ⟨ys, e _ h1, L2.Paired.mapP h2 fun _ _ ⟨b, e', h'⟩ => ⟨b, e', kp _ _ h'⟩⟩
theorem RowsL.mono {H H' : Hp} {A : Addr} {zs : List (List Int)} (s : Same H H') (h : RowsL H A zs) : RowsL H' A zs := h.keep (fun _ _ e => s _ _ e) fun _ e => s _ _ e
theorem rowsIn {H : Hp} {ys : List V} {zs : List (List Int)} {d : Nat} (hY : Paired (RowAt H) ys zs) (hl : ∀ ns ∈ zs, ns.length = d) : ∀ x ∈ ys, (kRow H x).length = d ∧ ∃ t, x = V.ref t ∧ H t = some (.tup ((kRow H x).map V.int)) := fun x hx => by
  obtain ⟨b, e, h⟩ := row_mem hY x hx
  exact ⟨hl _ (by rw [← kRow_map hY]; exact List.mem_map.mpr ⟨x, hx, rfl⟩), b, e, h⟩
theorem rowsOut {H : Hp} {ys ys' : List V} {zs : List (List Int)} {p : Addr} (hY : Paired (RowAt H) ys zs) (pm : ys'.Perm ys) (pw : ys'.Pairwise fun x y => TsO.lexL (kRow H y) (kRow H x) = false) (hp : H p = none) :
    ∃ zs', RowsL (upd H p (.lst ys')) p zs' ∧ zs'.Perm zs ∧ zs'.Pairwise (fun a b => TsO.lexL b a = false) := by
  have hz : Paired (RowAt H) ys' (ys'.map (kRow H)) := row_of fun x hx => row_mem hY x (pm.mem_iff.mp hx)
  refine ⟨ys'.map (kRow H), ⟨ys', upd_same, L2.Paired.mapP hz fun _ _ r => r.mono (Same.new hp)⟩, ?_, ?_⟩
  · rw [← kRow_map hY]; exact pm.map _
  · rw [List.pairwise_map]; exact pw
def rowD (ns : List Int) : PyData := .tuple (ns.map PyData.int)
theorem dp_ints2 {K : PySem.W.Frag} {H : Hp} : ∀ ns : List Int, DpAll K H (ns.map V.int) (ns.map PyData.int)
  | [] => .nil
  | n :: ns => .cons (.int n) (dp_ints2 ns)
theorem dp_rows {K : PySem.W.Frag} {H : Hp} : ∀ {ys : List V} {zs : List (List Int)}, Paired (RowAt H) ys zs → DpAll K H ys (zs.map rowD)
  | _, _, .nil => .nil
  | _, _, .cons r t => by
    obtain ⟨b, rfl, h⟩ := r
    exact .cons (.tup (SqT.of h) (dp_ints2 _)) (dp_rows t)
theorem RowsL.dp {K : PySem.W.Frag} {H : Hp} {A : Addr} {zs : List (List Int)} (h : RowsL H A zs) : Dp K H (.ref A) (.list (zs.map rowD)) := by
  obtain ⟨ys, h1, h2⟩ := h
  exact .lst (SqL.of h1) (dp_rows h2)
end Gr

set_option Elab.async false
set_option linter.all false
set_option pp.deepTerms false
set_option pp.maxSteps 3000
set_option maxRecDepth 100000
set_option maxHeartbeats 8000000
set_option exponentiation.threshold 3000
namespace Gr
open PySem PySem.Spec PyProof.Rows L2
open Pm (Rn)
theorem len_plt {c : Int} {Z : List Rn} : (pltL c Z).length ≤ Z.length := by
  unfold pltL prs
  rw [List.length_map]
  refine Nat.le_trans (List.length_filter_le _ _) ?_
  rw [List.length_zip]; exact Nat.min_le_right _ _
theorem len_gap {c : Int} {Z : List Rn} : (gapL c Z).length ≤ Z.length := by
  unfold gapL prs
  rw [List.length_map]
  refine Nat.le_trans (List.length_filter_le _ _) ?_
  rw [List.length_zip]; exact Nat.min_le_right _ _
def two (ns : List Int) : List Int := [ns.getD 0 0, ns.getD 1 0]
theorem plt_due {c : Int} {rs Zl : List Rn} (ok : Pm.Ok c rs) (okl : Pm.Ok c Zl) (g : Pm.G c (latL c rs) = Pm.G c Zl) {z1 z2 due : List (List Int)} (h1 : IsRows 3 (PltSet c (Pm.G c Zl)) z1) (h2 : IsRows 2 (GapSet c (Pm.G c rs)) z2) (pm : due.Perm (z2.map (sh c (-1) 0))) (pw : due.Pairwise fun a b => TsO.lexL b a = false) : z1.map two = due := by
  have c1 := ok.c1
  refine rows_uniq (d := 2) (S := Two c fun p q => ∃ y, PlatS (Pm.G c Zl) p q y) ⟨?_, perm_nodup_map h1.nd fun x hx y hy e => ?_, fun ns => ?_, fun ns hn => ?_⟩ (sh_rows c1 h2 (fun ns ⟨lo, hi, e, _, a, b⟩ => ⟨lo, hi, [], e, a, b⟩) (fun x y r r' h h' => ?_) (fun x y ⟨r, k, h⟩ => ?_) (fun p q t k a b => ?_) pm pw)
  · rw [List.pairwise_map]
    refine h1.pw.imp_of_mem fun {x y} hx hy h => ?_
    obtain ⟨p, q, w, rfl, _⟩ := (h1.mem x).mp hx
    obtain ⟨p', q', w', rfl, _⟩ := (h1.mem y).mp hy
    exact lexL_two h
  · obtain ⟨p, q, w, rfl, hp, _⟩ := (h1.mem x).mp hx
    obtain ⟨p', q', w', rfl, hp', _⟩ := (h1.mem y).mp hy
    have e1 : [p, q] = [p', q'] := e
    simp only [List.cons.injEq, and_true] at e1
    obtain ⟨rfl, rfl⟩ := e1
    rw [(plat_uniq okl hp hp').2]
  · rw [List.mem_map]
    constructor
    · rintro ⟨ms, hm, rfl⟩
      obtain ⟨p, q, w, rfl, hp, a, b⟩ := (h1.mem ms).mp hm
      exact ⟨p, q, rfl, ⟨w, hp⟩, a, b⟩
    · rintro ⟨p, q, rfl, ⟨w, hp⟩, a, b⟩
      exact ⟨[p, q, w], (h1.mem _).mpr ⟨p, q, w, rfl, hp, a, b⟩, rfl⟩
  · obtain ⟨ms, _, rfl⟩ := List.mem_map.mp hn; rfl
  · obtain ⟨_, _, e, _⟩ := h
    obtain ⟨_, _, e', _⟩ := h'
    simp only [List.cons.injEq] at e e'
    rw [e.2.2, e'.2.2]
  · obtain ⟨lo, hi, e, h, _⟩ := h
    simp only [List.cons.injEq] at e
    obtain ⟨rfl, rfl, _⟩ := e
    have := gap_move (-k) h
    rw [Int.neg_mul, show x + k * c + -(k * c) = x by omega, show y + k * c + -(k * c) = y by omega] at this
    rw [← g]
    refine (plat_lat ok).mpr ?_
    rw [show x + -1 + 1 = x by omega, Int.add_zero]
    exact this
  · rw [← g] at t
    have := gap_move k ((plat_lat ok).mp t)
    exact ⟨[], _, _, rfl, by rw [show p - -1 + k * c = p + 1 + k * c by omega, show q - 0 + k * c = q + k * c by omega]; exact this, a, b⟩
theorem gap_due {c : Int} {rs Zl : List Rn} (ok : Pm.Ok c rs) (g : Pm.G c (latL c rs) = Pm.G c Zl) {z1 z3 due : List (List Int)} (h3 : IsRows 2 (GapSet c (Pm.G c Zl)) z3) (h1 : IsRows 3 (PltSet c (Pm.G c rs)) z1) (pm : due.Perm (z1.map (sh c 0 (-1)))) (pw : due.Pairwise fun a b => TsO.lexL b a = false) : z3 = due := by
  have c1 := ok.c1
  refine rows_uniq (d := 2) (S := Two c fun p q => GapS (Pm.G c Zl) p q) h3 (sh_rows c1 h1 (fun ns ⟨p, q, y, e, _, a, b⟩ => ⟨p, q, [y], e, a, b⟩) (fun x y r r' h h' => ?_) (fun x y ⟨r, k, h⟩ => ?_) (fun p q t k a b => ?_) pm pw)
  · obtain ⟨_, _, _, e, hp, _⟩ := h
    obtain ⟨_, _, _, e', hp', _⟩ := h'
    simp only [List.cons.injEq] at e e'
    obtain ⟨rfl, rfl, rfl⟩ := e
    obtain ⟨rfl, rfl, rfl⟩ := e'
    rw [(plat_uniq ok hp hp').2]
  · obtain ⟨p, q, w, e, h, _⟩ := h
    simp only [List.cons.injEq] at e
    obtain ⟨rfl, rfl, _⟩ := e
    have := plat_move (-k) h
    rw [Int.neg_mul, show x + k * c + -(k * c) = x by omega, show y + k * c + -(k * c) = y by omega] at this
    rw [← g]
    refine (gap_lat ok).mpr ⟨w + -(k * c), ?_⟩
    rw [show y + -1 + 1 = y by omega, Int.add_zero]
    exact this
  · rw [← g] at t
    obtain ⟨w, h⟩ := (gap_lat ok).mp t
    have := plat_move k h
    exact ⟨[_], _, _, _, rfl, by rw [show p - 0 + k * c = p + k * c by omega, show q - -1 + k * c = q + 1 + k * c by omega]; exact this, a, b⟩
theorem ins_ex (d : Nat) (a : List Int) (ha : a.length = d) : ∀ zs : List (List Int), (∀ ns ∈ zs, ns.length = d) → zs.Pairwise (fun a b => TsO.lexL b a = false) → ∃ ys : List (List Int), ys.Perm (a :: zs) ∧ ys.Pairwise (fun a b => TsO.lexL b a = false)
  | [], _, _ => ⟨[a], .refl _, List.pairwise_singleton _ _⟩
  | z :: zs, hl, pw => by
    obtain ⟨p1, p2⟩ := List.pairwise_cons.mp pw
    have lz := hl z List.mem_cons_self
    by_cases e : TsO.lexL z a = false
    · refine ⟨a :: z :: zs, .refl _, List.pairwise_cons.mpr ⟨fun b hb => ?_, pw⟩⟩
      rcases List.mem_cons.mp hb with rfl | hb
      · exact e
      · exact TsO.lexL_tr d a z b ha lz (hl b (List.mem_cons_of_mem _ hb)) e (p1 b hb)
    · obtain ⟨ys, pm, pw'⟩ := ins_ex d a ha zs (fun ns h => hl ns (List.mem_cons_of_mem _ h)) p2
      refine ⟨z :: ys, (pm.cons z).trans (List.Perm.swap ..), List.pairwise_cons.mpr ⟨fun b hb => ?_, pw'⟩⟩
      rcases List.mem_cons.mp (pm.mem_iff.mp hb) with rfl | hb
      · exact TsO.lexL_asym _ _ (by simpa using e)
      · exact p1 b hb
theorem sort_ex (d : Nat) : ∀ l : List (List Int), (∀ ns ∈ l, ns.length = d) → ∃ zs : List (List Int), zs.Perm l ∧ zs.Pairwise (fun a b => TsO.lexL b a = false)
  | [], _ => ⟨[], .refl _, .nil⟩
  | a :: l, h => by
    obtain ⟨zs, pm, pw⟩ := sort_ex d l fun ns hn => h ns (List.mem_cons_of_mem _ hn)
    obtain ⟨ys, pm', pw'⟩ := ins_ex d a (h a List.mem_cons_self) zs (fun ns hn => h ns (List.mem_cons_of_mem _ (pm.mem_iff.mp hn))) pw
    exact ⟨ys, pm'.trans (pm.cons a), pw'⟩
theorem sh_len (c a b : Int) (z : List (List Int)) : ∀ ns ∈ z.map (sh c a b), ns.length = 2 := fun ns h => by
  obtain ⟨m, _, rfl⟩ := List.mem_map.mp h; rfl
theorem lay_ints : ∀ ns : List Int, PyData.canLayAll0 (ns.map PyData.int) = true
  | [] => by simp [PyData.canLayAll0]
  | n :: ns => by simp [PyData.canLayAll0, PyData.canLay0, lay_ints ns]
theorem depth_ints1 : ∀ ns : List Int, PyData.depthAll (ns.map PyData.int) ≤ 3
  | [] => by simp [PyData.depthAll]
  | n :: ns => by
    have := depth_ints1 ns
    simp only [List.map_cons, PyData.depthAll, PyData.depth]
    omega
theorem lay_rows : ∀ zs : List (List Int), PyData.canLayAll0 (zs.map rowD) = true
  | [] => by simp [PyData.canLayAll0]
  | z :: zs => by simp [PyData.canLayAll0, PyData.canLay0, rowD, lay_ints z, lay_rows zs]
theorem depth_rows : ∀ zs : List (List Int), PyData.depthAll (zs.map rowD) ≤ 5
  | [] => by simp [PyData.depthAll]
  | z :: zs => by
    have := depth_rows zs
    have := depth_ints1 z
    simp only [List.map_cons, PyData.depthAll, PyData.depth, rowD]
    omega
theorem shaped_rows (zs : List (List Int)) : SeqAt.shaped (.list (zs.map rowD)) = true := by
  have h := depth_rows zs
  unfold SeqAt.shaped
  rw [Bool.and_eq_true]
  refine ⟨by simpa only [PyData.canLay0] using lay_rows zs, decide_eq_true ?_⟩
  simp only [PyData.depth]
  omega
theorem eqv_rows (zs : List (List Int)) : PyData.eqv (.list (zs.map rowD)) (.list (zs.map rowD)) = true := SeqAt.eqv_refl _ (SeqAt.canLay_of_shaped (shaped_rows zs))
def spMov : Sp := fun vs H Q _ => ∃ (c : Int) (a : Addr) (xs : List V) (nss : List (List Int)), vs = [.int c, .ref a] ∧ H a = some (.lst xs) ∧ Paired (RowAt H) xs nss ∧ 1 ≤ c ∧ c ≤ 10 ^ 30 ∧ nss.length ≤ 50000 ∧ (∀ ns ∈ nss, ∃ x y, ns = [x, y] ∧ Fit x) ∧
  ∀ D zs H', Same H H' → RowsL H' D zs → zs.Perm (nss.map (homeL c)) → zs.Pairwise (fun a b => TsO.lexL b a = false) → Q (.ref D) H'
def spPas (C : Addr) : Sp := fun vs H Q _ => ∃ (p : Addr) (n c m : Int), vs = [.ref p, .int c, .int m] ∧ Pond n p H ∧ n ≤ 10 ^ 6 ∧ 1 ≤ c ∧ c ≤ 10 ^ 30 ∧ 1 ≤ m ∧ m ≤ 1000 ∧
  ∀ (x : Addr) (H' : Hp) (Z : List Rn), But p H H' → Pond (n + 20010) p H' → PasAt C H' x c (2 * 10 ^ 42 + c) Z → (Z.length : Int) ≤ m → Q (.ref x) H'
section
variable {P : Program} {w : World} {K : PySem.W.Frag} {mg : Str → Option Value} {base : Heap} {tC : Tok}
theorem ok_mov {f : Addr} {fd : FuncData} (B : Blt mg tC) (Dl_moved : Def K mg "_law_moved" s_l_moved ["_law_cycle_here", "_law_rows_here"] f fd) : FnOk P w K mg base CX0 1 f fd ["_law_cycle_here", "_law_rows_here"] spMov := by
  refine Dl_moved.F.ok scl_moved (fun vs H Q E h => ?_) (fun cdv A outer s H vs Q E hr h => ⟨_, (pss_cons (ps_set (i := 2) scl_moved.nd rfl (Or.inl rfl) (pe_lst pa_nil))
  (pss_cons (ps_for PassesOwn.never rfl (pi_list (pv 1)) (pg_tup rfl (pgs_cons (pg_name (i := 3) scl_moved.nd rfl (Or.inl rfl)) (pgs_cons (pg_name (i := 4) scl_moved.nd rfl (Or.inl rfl)) pgs_nil)))
   (pss_cons (ps_set (i := 5) scl_moved.nd rfl (Or.inl rfl) (pe_op op_mulW (pe_op op_fdivW (pv 3) (pv 0)) (pv 0)))
  (pss_one (ps_expr (pe_bm PySem.F.plainAttrs_list PySem.F.slot_list_append PySem.F.type_list_append mt_append (pv 2) (pa_cons (pe_tup (pa_cons (pe_op op_sub (pv 3) (pv 5)) (pa_cons (pe_op op_sub (pv 4) (pv 5)) pa_nil))) pa_nil))))))
  (pss_one (ps_ret (pe_callB cr_sortedTs (by rfl) B.n_sorted (by decide +kernel) (pa_cons (pv 2) pa_nil)))))), ?_⟩)
  · obtain ⟨c, a, xs, nss, rfl, _⟩ := h; rfl
  · obtain ⟨c, a, xs, nss, rfl, ha, hP, c1, c30, hl, hn, q⟩ := h
    have lx := paired_len hP
    refine ⟨Nat.zero_le _, fun F hF => ?_⟩
    have sF := Same.new hF (o := .lst [])
    refine ⟨_, rfl, a, rfl, ⟨_, SqL.of (sF _ _ ha)⟩, ?_⟩
    refine for_list (xs := xs) (fun i σ H' => ∃ (us : List V) (y3 y4 y5 : Option V), σ = [some (.int c), some (.ref a), some (.ref F), y3, y4, y5] ∧ Same H H' ∧ H' F = some (.lst us) ∧ Paired (RowAt H') us ((nss.take i).map (homeL c)))
      ⟨[], none, none, none, rfl, sF, upd_same, .nil⟩ (fun i σ H' _ ⟨_, _, _, _, _, s, _⟩ => SqL.of (s _ _ ha)) ?_ ?_
    · rintro i v σ H' hv ⟨us, y3, y4, y5, rfl, s1, e1, hU⟩
      obtain ⟨ns, hg, b, rfl, hb⟩ := paired_at hP hv
      obtain ⟨x, y, rfl, fx⟩ := hn ns (List.mem_of_getElem? hg)
      have i1 := (List.getElem?_eq_some_iff.mp hg).1
      have lu := paired_len hU
      rw [List.length_map, List.length_take] at lu
      refine ⟨b, _, rfl, SqT.of (s1 _ _ hb), rfl, _, _, rfl, _, _, rfl, rfl, ?_⟩
      refine ⟨_, rfl, _, rfl, _, _, rfl, rfl, divF c1 c30, _, rfl, _, _, rfl, rfl, mulF fx c1 c30, ?_⟩
      refine ⟨_, rfl, .inl ⟨rfl, _, SqL.of e1⟩, ?_⟩
      refine ⟨_, rfl, _, rfl, _, _, rfl, rfl, _, rfl, _, rfl, _, _, rfl, rfl, (by show 2 ≤ sizeLine; decide), fun T hT => ?_⟩
      refine ⟨F, us, _, rfl, rfl, Same.new hT _ _ e1, smallL (by omega), ?_⟩
      have nTF : T ≠ F := fun e => by rw [e, e1] at hT; cases hT
      refine ⟨_, _, _, _, rfl, app_same (us := us) hF s1 hT, upd_same, ?_⟩
      rw [List.take_add_one, hg, List.map_append]
      refine paired_snoc (L2.Paired.mapP hU fun _ _ ⟨b, e, h⟩ => ⟨b, e, app_keep e1 hT h⟩) ⟨T, rfl, ?_⟩
      rw [upd_ne nTF]
      refine upd_same.trans ?_
      show _ = some (HO.tup [V.int (x + -(x / c * c)), V.int (y + -(x / c * c))])
      rw [← Int.sub_eq_add_neg, ← Int.sub_eq_add_neg]
    · rintro σ H' ⟨us, y3, y4, y5, rfl, s1, e1, hU⟩
      rw [List.take_of_length_le (by omega)] at hU
      refine ⟨_, rfl, F, us, kRow H', 2, rfl, SqL.of e1, by decide, rowsIn hU (fun ns hns => by
        obtain ⟨ms, hms, rfl⟩ := List.mem_map.mp hns
        obtain ⟨x, y, rfl, _⟩ := hn ms hms; rfl), fun zs p pm pw hp => ?_⟩
      obtain ⟨zs1, h1, qm1, qw1⟩ := rowsOut hU pm pw hp
      exact q p zs1 _ (s1.trans (Same.new hp)) h1 qm1 qw1
theorem ok_pas {C fI fC f f1 f2 f3 f4 : Addr} {fdI fd fd1 fd2 fd3 fd4 : FuncData} (B : Blt mg tC) (TP : TxtP K mg C fI fC) (Dl_passage : Def K mg "_law_passage" s_l_passage ["_law_spring_here", "_law_cycle_here", "_law_many"] f fd) (Dl_drawn : Def K mg "_law_drawn" s_l_drawn ["_law_spring_here", "_law_cycle_here", "_law_many"] f1 fd1) (Dl_take : Def K mg "_law_take" s_l_take ["_law_spring_here", "_law_many"] f2 fd2) (Dl_shares : Def K mg "_law_shares" s_l_shares ["_law_spring_here", "_law_total", "_law_many"] f3 fd3) (Dl_rows : Def K mg "_law_rows" s_l_rows ["_law_spring_here", "_law_cycle_here", "_law_many", "_law_begin", "_law_arrival"] f4 fd4) (DP_init : DefM K "__init__" "Passage.__init__" s_P_init ["self", "cycle", "runs"] fI fdI) (GP_init : FnOk P w K mg base CX0 4 fI fdI ["self", "cycle", "runs"] (spInitP C)) : FnOk P w K mg base CX0 6 f fd ["_law_spring_here", "_law_cycle_here", "_law_many"] (spPas C) := by
  have Gl_drawn := (ok_drawn (P := P) (w := w) (base := base) B Dl_drawn Dl_take Dl_shares Dl_rows)
  refine Dl_passage.F.ok scl_passage (fun vs H Q E h => ?_) (fun cdv A outer s H vs Q E hr h => ⟨_, (pss_one (ps_ret (pe_make TP.mks GP_init (hr.mono (by decide)) (by rfl) TP.mgC DP_init.b .nil pass0 (pa_cons (pv 1) (pa_cons (pe_callTy call_tuple_of (by rfl) B.n_tuple (by decide +kernel) (pa_cons (pe_call Gl_drawn (hr.mono (by decide)) (by rfl) Dl_drawn.g Dl_drawn.F.kp Dl_drawn.b .nil pass0 (pa_cons (pv 0) (pa_cons (pv 1) (pa_cons (pv 2) pa_nil)))) pa_nil)) pa_nil))))), ?_⟩)
  · obtain ⟨p, n, c, m, rfl, _⟩ := h; rfl
  · obtain ⟨p, n, c, m, rfl, hP, hn, c1, c30, m1, m2, q⟩ := h
    have e42 : (10 : Int) ^ 42 ≤ 10 ^ 200 := by decide +kernel
    refine ⟨_, rfl, _, rfl, _, rfl, _, rfl, p, n, c, m, rfl, hP, hn, c1, c30, m1, m2, fun L rs H1 hLp b1 pd1 hR ok br hl => ?_⟩
    obtain ⟨ys, hL, hY⟩ := id hR
    refine ⟨L, _, rfl, .inl ⟨SqL.of hL, fun l hl2 => ?_⟩⟩
    intro x dx hx hdx nx
    have sl := Same.new hl2 (o := .tup ys)
    have sM := same_make (C := C) hx hdx
    refine ⟨x, dx, l, c, 10 ^ 42, rs, rfl, upd_same, ⟨ys, sM _ _ upd_same, rns_mono (sl.trans sM) hY⟩, ok, c30, by omega, br, e42, fun H2 Z kp hPas hGr lz => ⟨rfl, ?_⟩⟩
    have s2 : Same H1 H2 := made hx (sl.trans sM) sl kp
    exact q x H2 Z (b1.trans (Same.but s2)) (pd1.same s2) hPas (by omega)
end
end Gr

set_option Elab.async false
set_option linter.all false
set_option pp.deepTerms false
set_option pp.maxSteps 3000
set_option maxRecDepth 100000
set_option maxHeartbeats 8000000
set_option exponentiation.threshold 3000
namespace Gr
open PySem PySem.Spec PyProof.Rows L2
open Pm (Rn)
theorem fldP_no {c : Int} {a : Addr} : (fldP c a).lookup ("latest" : Str) = none := by
  unfold fldP
  rw [lookup_putF, if_neg (by decide +kernel), lookup_putF, if_neg (by decide +kernel)]; rfl
theorem PasAt.but {C q : Addr} {H H' : Hp} {p : Addr} {c M : Int} {Z : List Rn} {u : List V} (b : But q H H') (hq : H q = some (.lst u)) (h : PasAt C H p c M Z) : PasAt C H' p c M Z := by
  obtain ⟨dx, a, h1, xs, h2, h3⟩ := h.ob
  refine ⟨⟨dx, a, b _ _ (ne_of h1 hq (fun z => nomatch z)) h1, xs, b _ _ (ne_of h2 hq (fun z => nomatch z)) h2, L2.Paired.mapP h3 fun _ _ ⟨b', e', h'⟩ => ⟨b', e', b _ _ (ne_of h' hq (fun z => nomatch z)) h'⟩⟩, h.can, h.le, h.len, h.ba⟩
theorem cut_hiA (xs : List V) (m : Nat) : cutV xs none (some (m : Int)) = xs.take m := by
  by_cases h : m ≤ xs.length
  · exact cut_hi xs m h
  · unfold cutV
    rw [HT.sIx_nat, HT.sIx_none, Nat.min_eq_right (by omega), List.take_of_length_le (show xs.length ≤ m by omega)]
    simp
def spRight63 : Sp := fun vs H Q _ => ∃ (p : Addr) (n c m : Int), vs = [.ref p, .int c, .int m] ∧ Pond n p H ∧ n ≤ 10 ^ 6 ∧ 1 ≤ c ∧ c ≤ 10 ^ 30 ∧ 1 ≤ m ∧ m ≤ 1000 ∧ ∀ H', But p H H' → Pond (n + 30000) p H' → Q (.bl true) H'
theorem rowL_at {H : Hp} {A : Addr} {zs : List (List Int)} {ys : List V} {i : Nat} {v : V} (hY : Paired (RowAt H) ys zs) (hv : ys[i]? = some v) : ∃ ns b, zs[i]? = some ns ∧ v = .ref b ∧ H b = some (.tup (ns.map V.int)) := by
  obtain ⟨ns, hg, b, e, hb⟩ := paired_at hY hv
  exact ⟨ns, b, hg, e, hb⟩
section
variable {P : Program} {w : World} {K : PySem.W.Frag} {mg : Str → Option Value} {base : Heap} {tC : Tok}
theorem ok_R63 {C fI fC f f1 f2 f3 f4 f5 f6 f7 f8 f9 : Addr} {fdI fdC fd fd1 fd2 fd3 fd4 fd5 fd6 fd7 fd8 fd9 : FuncData} (B : Blt mg tC) (TP : TxtP K mg C fI fC) (IP : IsP K C) (Dl_right : Def K mg "_law_right" s_l_right ["_law_spring_here", "_law_cycle_here", "_law_many"] f fd) (Dl_drawn : Def K mg "_law_drawn" s_l_drawn ["_law_spring_here", "_law_cycle_here", "_law_many"] f1 fd1) (Dl_take : Def K mg "_law_take" s_l_take ["_law_spring_here", "_law_many"] f2 fd2) (Dl_shares : Def K mg "_law_shares" s_l_shares ["_law_spring_here", "_law_total", "_law_many"] f3 fd3) (Dl_rows : Def K mg "_law_rows" s_l_rows ["_law_spring_here", "_law_cycle_here", "_law_many", "_law_begin", "_law_arrival"] f4 fd4) (Dl_passage : Def K mg "_law_passage" s_l_passage ["_law_spring_here", "_law_cycle_here", "_law_many"] f5 fd5) (Dl_moved : Def K mg "_law_moved" s_l_moved ["_law_cycle_here", "_law_rows_here"] f6 fd6) (DP_latest : DefM K "latest" "Passage.latest" s_P_latest ["self"] f7 fd7) (Dplatoons : Def K mg "platoons" s_platoons ["passage"] f8 fd8) (Dgaps : Def K mg "gaps" s_gaps ["passage"] f9 fd9) (DP_call : DefM K "__call__" "Passage.__call__" s_P_call ["self", "start"] fC fdC) (DP_init : DefM K "__init__" "Passage.__init__" s_P_init ["self", "cycle", "runs"] fI fdI)
    (MP_latest : Meth K C "latest" f7) (GP_call : FnOk P w K mg base CX0 3 fC fdC ["self", "start"] (spCallP C)) (GP_init : FnOk P w K mg base CX0 4 fI fdI ["self", "cycle", "runs"] (spInitP C)) (GP_latest : FnOk P w K mg base CX0 6 f7 fd7 ["self"] (spLatest C)) (Gplatoons : FnOk P w K mg base CX0 3 f8 fd8 ["passage"] (spRowsOf C pltL)) (Ggaps : FnOk P w K mg base CX0 3 f9 fd9 ["passage"] (spRowsOf C gapL)) : FnOk P w K mg base CX0 7 f fd ["_law_spring_here", "_law_cycle_here", "_law_many"] spRight63 := by
  have Gl_take := (ok_take (P := P) (w := w) (base := base) B Dl_take)
  have Gl_passage := (ok_pas (P := P) (w := w) (base := base) B TP Dl_passage Dl_drawn Dl_take Dl_shares Dl_rows DP_init GP_init)
  have Gl_moved := (ok_mov (P := P) (w := w) (base := base) B Dl_moved)
  have CO := TP.co
  have RP_call := raw_callP (C := C) GP_call DP_call.b
  refine Dl_right.F.ok scl_right (fun vs H Q E h => ?_) (fun cdv A outer s H vs Q E hr h => ⟨_, (pss_cons (ps_set (i := 3) scl_right.nd rfl (Or.inl rfl) (pe_call Gl_passage (hr.mono (by decide)) (by rfl) Dl_passage.g Dl_passage.F.kp Dl_passage.b .nil pass0 (pa_cons (pv 0) (pa_cons (pv 1) (pa_cons (pv 2) pa_nil)))))
  (pss_cons (ps_par3 (i := 4) (j := 5) (l := 6) rfl scl_right.nd rfl rfl rfl (by decide) (by decide) (by decide) rfl rfl rfl (pa_cons (pe_meth0 (pv 3) TP.cl MP_latest GP_latest (hr.mono (by decide)) DP_latest.b .nil pass0) (pa_cons (pe_call Gplatoons (hr.mono (by decide)) (by rfl) Dplatoons.g Dplatoons.F.kp Dplatoons.b .nil pass0 (pa_cons (pv 3) pa_nil)) (pa_cons (pe_call Ggaps (hr.mono (by decide)) (by rfl) Dgaps.g Dgaps.F.kp Dgaps.b .nil pass0 (pa_cons (pv 3) pa_nil)) pa_nil))) (by rfl))
  (pss_cons (ps_if (pt_cmpR op_ne (pe_callB (cr_sum rfl) (by rfl) B.n_sum (by decide +kernel) (pa_cons (pe_lc (own := [("_law_first", 7), ("_law_last", 8), ("_law_arrival", 9)]) (g := (gTup K 3 (gCons (gName 7) (gCons (gName 8) (gCons (gName 9) gNil))))) (tt := tYes) rfl scl_right.nd (pi_list (pv 5)) (blkOk_by (N := ["_law_spring_here", "_law_cycle_here", "_law_many", "_law_one", "_law_late", "_law_told", "_law_empty", "_law_first", "_law_last", "_law_arrival", "_law_due", "_law_start", "_law_turn"]) (sc := defScope s_l_right) (by decide +kernel)) (fun _ _ _ _ _ => (pg_tup rfl (pgs_cons (pg_name (i := 7) scl_right.nd rfl (Or.inl rfl)) (pgs_cons (pg_name (i := 8) scl_right.nd rfl (Or.inl rfl)) (pgs_cons (pg_name (i := 9) scl_right.nd rfl (Or.inl rfl)) pgs_nil))))) (fun _ _ _ _ _ => pts_nil) (fun _ _ _ _ _ => (pe_op op_sub (pv 8) (pv 7)))) pa_nil)) (pe_callB (cr_sum rfl) (by rfl) B.n_sum (by decide +kernel) (pa_cons (pe_lc (own := [("_law_first", 7), ("_law_last", 8)]) (g := (gTup K 2 (gCons (gName 7) (gCons (gName 8) gNil)))) (tt := tYes) rfl scl_right.nd (pi_list (pv 6)) (blkOk_by (N := ["_law_spring_here", "_law_cycle_here", "_law_many", "_law_one", "_law_late", "_law_told", "_law_empty", "_law_first", "_law_last", "_law_arrival", "_law_due", "_law_start", "_law_turn"]) (sc := defScope s_l_right) (by decide +kernel)) (fun _ _ _ _ _ => (pg_tup rfl (pgs_cons (pg_name (i := 7) scl_right.nd rfl (Or.inl rfl)) (pgs_cons (pg_name (i := 8) scl_right.nd rfl (Or.inl rfl)) pgs_nil)))) (fun _ _ _ _ _ => pts_nil) (fun _ _ _ _ _ => (pe_op op_add (pe_op op_sub (pv 8) (pv 7)) pe_int))) pa_nil)) (nomark _))
   (pss_one (ps_ret pe_bl))
   pss_nil)
  (pss_cons (ps_if (PW.pt (pw_or (pt_cmpR op_ne (pe_callB call_len_seq (by rfl) B.len PySem.boot_len (pa_cons (pe_call Gplatoons (hr.mono (by decide)) (by rfl) Dplatoons.g Dplatoons.F.kp Dplatoons.b .nil pass0 (pa_cons (pv 4) pa_nil)) pa_nil)) (pe_callB call_len_seq (by rfl) B.len PySem.boot_len (pa_cons (pv 6) pa_nil)) (nomark _)) (pw_or1 (pt_cmpR op_ne (pe_callB call_len_seq (by rfl) B.len PySem.boot_len (pa_cons (pe_call Ggaps (hr.mono (by decide)) (by rfl) Dgaps.g Dgaps.F.kp Dgaps.b .nil pass0 (pa_cons (pv 4) pa_nil)) pa_nil)) (pe_callB call_len_seq (by rfl) B.len PySem.boot_len (pa_cons (pv 5) pa_nil)) (nomark _)))))
   (pss_one (ps_ret pe_bl))
   pss_nil)
  (pss_cons (ps_set (i := 10) scl_right.nd rfl (Or.inl rfl) (pe_call Gl_moved (hr.mono (by decide)) (by rfl) Dl_moved.g Dl_moved.F.kp Dl_moved.b .nil pass0 (pa_cons (pv 1) (pa_cons (pe_lc (own := [("_law_first", 7), ("_law_last", 8)]) (g := (gTup K 2 (gCons (gName 7) (gCons (gName 8) gNil)))) (tt := tYes) rfl scl_right.nd (pi_list (pv 6)) (blkOk_by (N := ["_law_spring_here", "_law_cycle_here", "_law_many", "_law_one", "_law_late", "_law_told", "_law_empty", "_law_first", "_law_last", "_law_arrival", "_law_due", "_law_start", "_law_turn"]) (sc := defScope s_l_right) (by decide +kernel)) (fun _ _ _ _ _ => (pg_tup rfl (pgs_cons (pg_name (i := 7) scl_right.nd rfl (Or.inl rfl)) (pgs_cons (pg_name (i := 8) scl_right.nd rfl (Or.inl rfl)) pgs_nil)))) (fun _ _ _ _ _ => pts_nil) (fun _ _ _ _ _ => (pe_tup (pa_cons (pe_op op_sub (pv 7) pe_int) (pa_cons (pv 8) pa_nil))))) pa_nil))))
  (pss_cons (ps_if (pt_cmpR (op_neD hr.units) (pe_lc (own := [("_law_first", 7), ("_law_last", 8), ("_law_start", 11)]) (g := (gTup K 3 (gCons (gName 7) (gCons (gName 8) (gCons (gName 11) gNil))))) (tt := tYes) rfl scl_right.nd (pi_list (pe_call Gplatoons (hr.mono (by decide)) (by rfl) Dplatoons.g Dplatoons.F.kp Dplatoons.b .nil pass0 (pa_cons (pv 4) pa_nil))) (blkOk_by (N := ["_law_spring_here", "_law_cycle_here", "_law_many", "_law_one", "_law_late", "_law_told", "_law_empty", "_law_first", "_law_last", "_law_arrival", "_law_due", "_law_start", "_law_turn"]) (sc := defScope s_l_right) (by decide +kernel)) (fun _ _ _ _ _ => (pg_tup rfl (pgs_cons (pg_name (i := 7) scl_right.nd rfl (Or.inl rfl)) (pgs_cons (pg_name (i := 8) scl_right.nd rfl (Or.inl rfl)) (pgs_cons (pg_name (i := 11) scl_right.nd rfl (Or.inl rfl)) pgs_nil))))) (fun _ _ _ _ _ => pts_nil) (fun _ _ _ _ _ => (pe_tup (pa_cons (pv 7) (pa_cons (pv 8) pa_nil))))) (pv 10) (nomark _))
   (pss_one (ps_ret pe_bl))
   pss_nil)
  (pss_cons (ps_if (pt_cmpR (op_neD hr.units) (pe_call Ggaps (hr.mono (by decide)) (by rfl) Dgaps.g Dgaps.F.kp Dgaps.b .nil pass0 (pa_cons (pv 4) pa_nil)) (pe_call Gl_moved (hr.mono (by decide)) (by rfl) Dl_moved.g Dl_moved.F.kp Dl_moved.b .nil pass0 (pa_cons (pv 1) (pa_cons (pe_lc (own := [("_law_first", 7), ("_law_last", 8), ("_law_arrival", 9)]) (g := (gTup K 3 (gCons (gName 7) (gCons (gName 8) (gCons (gName 9) gNil))))) (tt := tYes) rfl scl_right.nd (pi_list (pv 5)) (blkOk_by (N := ["_law_spring_here", "_law_cycle_here", "_law_many", "_law_one", "_law_late", "_law_told", "_law_empty", "_law_first", "_law_last", "_law_arrival", "_law_due", "_law_start", "_law_turn"]) (sc := defScope s_l_right) (by decide +kernel)) (fun _ _ _ _ _ => (pg_tup rfl (pgs_cons (pg_name (i := 7) scl_right.nd rfl (Or.inl rfl)) (pgs_cons (pg_name (i := 8) scl_right.nd rfl (Or.inl rfl)) (pgs_cons (pg_name (i := 9) scl_right.nd rfl (Or.inl rfl)) pgs_nil))))) (fun _ _ _ _ _ => pts_nil) (fun _ _ _ _ _ => (pe_tup (pa_cons (pv 7) (pa_cons (pe_op op_sub (pv 8) pe_int) pa_nil))))) pa_nil))) (nomark _))
   (pss_one (ps_ret pe_bl))
   pss_nil)
  (pss_cons (ps_for PassesOwn.never rfl (pi_list (pe_slice sl_list (pv 5) po_none (po_some pe_int))) (pg_tup rfl (pgs_cons (pg_name (i := 7) scl_right.nd rfl (Or.inl rfl)) (pgs_cons (pg_name (i := 8) scl_right.nd rfl (Or.inl rfl)) (pgs_cons (pg_name (i := 9) scl_right.nd rfl (Or.inl rfl)) pgs_nil))))
   (pss_cons (ps_if (PW.pt (pw_or (pt_cmpR op_ne (StX.pe_callO (pv 3) CO RP_call (hr.mono (by decide)) pass0 (pa_cons (pv 7) pa_nil)) (pv 9) (nomark _)) (pw_or (pt_cmpR op_ne (StX.pe_callO (pv 3) CO RP_call (hr.mono (by decide)) pass0 (pa_cons (pv 8) pa_nil)) (pv 9) (nomark _)) (pw_or1 (pt_cmpR op_ne (StX.pe_callO (pv 4) CO RP_call (hr.mono (by decide)) pass0 (pa_cons (pv 9) pa_nil)) (pv 8) (nomark _))))))
   (pss_one (ps_ret pe_bl))
   pss_nil)
  (pss_one (ps_if (PW.pt (pw_or (pt_cmpR op_eq (StX.pe_callO (pv 3) CO RP_call (hr.mono (by decide)) pass0 (pa_cons (pe_op op_sub (pv 7) pe_int) pa_nil)) (pv 9) (nomark _)) (pw_or1 (pt_cmpR op_eq (StX.pe_callO (pv 3) CO RP_call (hr.mono (by decide)) pass0 (pa_cons (pe_op op_add (pv 8) pe_int) pa_nil)) (pv 9) (nomark _)))))
   (pss_one (ps_ret pe_bl))
   pss_nil))))
  (pss_cons (ps_for PassesOwn.never rfl (pi_range1 (by rfl) B.range (pa_cons pe_int pa_nil)) (pg_name (i := 12) scl_right.nd rfl (Or.inl rfl))
   (pss_cons (ps_set (i := 11) scl_right.nd rfl (Or.inl rfl) (pe_op op_sub (pe_call Gl_take (hr.mono (by decide)) (by rfl) Dl_take.g Dl_take.F.kp Dl_take.b .nil pass0 (pa_cons (pv 0) (pa_cons (pe_ix ix_list (pe_lst (pa_cons (pe_op op_mulW pe_int (pv 1)) (pa_cons (pe_op op_powW pe_int pe_int) pa_nil))) (pe_call Gl_take (hr.mono (by decide)) (by rfl) Dl_take.g Dl_take.F.kp Dl_take.b .nil pass0 (pa_cons (pv 0) (pa_cons pe_int pa_nil))) (fun _ _ => rfl)) pa_nil))) (pe_op op_mulW pe_int (pv 1))))
  (pss_cons (ps_set (i := 9) scl_right.nd rfl (Or.inl rfl) (StX.pe_callO (pv 3) CO RP_call (hr.mono (by decide)) pass0 (pa_cons (pv 11) pa_nil)))
  (pss_one (ps_if (PW.pt (pw_or (pt_cmpR op_lt (StX.pe_callO (pv 4) CO RP_call (hr.mono (by decide)) pass0 (pa_cons (pv 9) pa_nil)) (pv 11) (nomark _)) (pw_or1 (pt_cmpR op_ge (StX.pe_callO (pv 4) CO RP_call (hr.mono (by decide)) pass0 (pa_cons (pe_op op_sub (pv 9) pe_int) pa_nil)) (pv 11) (nomark _)))))
   (pss_one (ps_ret pe_bl))
   pss_nil)))))
  (pss_one (ps_ret pe_bl))))))))))), ?_⟩)
  · obtain ⟨p, n, c, m, rfl, _⟩ := h; rfl
  · obtain ⟨p, n, c, m, rfl, hP, hn, c1, c30, m1, m2, q⟩ := h
    have k199 : 2 * (10 : Int) ^ 42 + 10 ^ 30 ≤ 10 ^ 199 ∧ (10 : Int) ^ 199 ≤ 10 ^ 200 ∧ 100 * (10 : Int) ^ 42 + 100 * 10 ^ 30 ≤ 10 ^ 199 := by decide +kernel
    refine ⟨_, rfl, _, rfl, _, rfl, p, n, c, m, rfl, hP, hn, c1, c30, m1, m2, fun x H1 Z b1 pd1 hPas lz => ?_⟩
    have lZ : Z.length ≤ 1000 := by omega
    have ok := hPas.can.1
    obtain ⟨dxp, ap, hxp, hSp⟩ := hPas.ob
    refine ⟨_, rfl, x, dxp, _, rfl, hxp, fldP_no, x, c, _, Z, rfl, hPas, by omega, by omega, fun x2 H2 Zl s2 hPl hGl ll => ?_⟩
    have eGl := F_same hGl
    refine ⟨_, rfl, x, c, _, Z, rfl, hPas.mono s2, by omega, by omega, fun A1 ysA z1 H3 s3 hA eA pA permA pwA => ?_⟩
    refine ⟨_, rfl, x, c, _, Z, rfl, hPas.mono (s2.trans s3), by omega, by omega, fun A2 ysB z2 H4 s4 hB eB pB permB pwB => ?_⟩
    have r1 := plt_rows ok permA pwA
    have r2 := gap_rows ok permB pwB
    have eA4 := s4 _ _ eA
    have pA4 : Paired (RowAt H4) ysA z1 := L2.Paired.mapP pA fun _ _ ⟨b, e', h'⟩ => ⟨b, e', s4 _ _ h'⟩
    have l1 := paired_len pA4
    have l2 := paired_len pB
    have l1' : z1.length ≤ 1000 := by
      have := permA.length_eq
      rw [List.length_map] at this
      have := len_plt (c := c) (Z := Z)
      omega
    have l2' : z2.length ≤ 1000 := by
      have := permB.length_eq
      rw [List.length_map] at this
      have := len_gap (c := c) (Z := Z)
      omega
    refine ⟨_, _, _, rfl, ?_⟩
    refine ⟨_, rfl, A1, rfl, ⟨_, SqL.of eA4⟩, fun D1 hD1 => ?_⟩
    refine lc_list (xs := ysA) (fun i H' => Same H4 H' ∧ H' D1 = some (.lst (((z1.take i).map wide).map V.int))) ⟨Same.new hD1, upd_same⟩ (fun i H' _ ⟨s1, _⟩ => SqL.of (s1 _ _ eA4)) ?_ ?_
    · rintro i v H' hv ⟨s5, e5⟩
      obtain ⟨ns, hg, b, rfl, hb⟩ := paired_at pA4 hv
      obtain ⟨p', q', y', rfl, _⟩ := (r1.mem ns).mp (List.mem_of_getElem? hg)
      have i1 := (List.getElem?_eq_some_iff.mp hg).1
      refine ⟨b, _, rfl, SqT.of (s5 _ _ hb), rfl, _, _, rfl, _, _, rfl, _, _, rfl, rfl, ?_⟩
      refine ⟨rfl, _, rfl, _, rfl, _, _, rfl, rfl, _, e5, ?_, fun b o h => ?_, ?_⟩
      · rw [List.length_map, List.length_map, List.length_take]; exact smallL (by omega)
      · rw [upd_ne (ne_of_none h hD1)]; exact s5 _ _ h
      · rw [upd_same, List.take_add_one, hg, List.map_append, List.map_append]; rfl
    · rintro H5 ⟨s5, e5⟩
      rw [List.take_of_length_le (by omega)] at e5
      have eB5 := s5 _ _ eB
      have pB5 : Paired (RowAt H5) ysB z2 := L2.Paired.mapP pB fun _ _ ⟨b, e', h'⟩ => ⟨b, e', s5 _ _ h'⟩
      refine ⟨D1, _, rfl, SqL.of e5, ?_⟩
      refine ⟨_, rfl, A2, rfl, ⟨_, SqL.of eB5⟩, fun D2 hD2 => ?_⟩
      refine lc_list (xs := ysB) (fun i H' => Same H5 H' ∧ H' D2 = some (.lst (((z2.take i).map fun ns => wide ns + 1).map V.int))) ⟨Same.new hD2, upd_same⟩ (fun i H' _ ⟨s1, _⟩ => SqL.of (s1 _ _ eB5)) ?_ ?_
      · rintro i v H' hv ⟨s6, e6⟩
        obtain ⟨ns, hg, b, rfl, hb⟩ := paired_at pB5 hv
        obtain ⟨p', q', rfl, _⟩ := (r2.mem ns).mp (List.mem_of_getElem? hg)
        have i1 := (List.getElem?_eq_some_iff.mp hg).1
        refine ⟨b, _, rfl, SqT.of (s6 _ _ hb), rfl, _, _, rfl, _, _, rfl, rfl, ?_⟩
        refine ⟨rfl, _, rfl, _, rfl, _, _, rfl, rfl, _, _, rfl, rfl, _, e6, ?_, fun b o h => ?_, ?_⟩
        · rw [List.length_map, List.length_map, List.length_take]; exact smallL (by omega)
        · rw [upd_ne (ne_of_none h hD2)]; exact s6 _ _ h
        · rw [upd_same, List.take_add_one, hg, List.map_append, List.map_append]; rfl
      · rintro H6 ⟨s6, e6⟩
        rw [List.take_of_length_le (by omega)] at e6
        refine ⟨D2, _, rfl, SqL.of e6, rfl, false, congrArg V.bl (congrArg not (decide_eq_true (congrArg V.int (sums_eq ok permA permB)))), iteF ?_⟩
        have sX := (s2.trans (s3.trans s4)).trans (s5.trans s6)
        have s26 := (s3.trans s4).trans (s5.trans s6)
        have okl := hPl.can.1
        obtain ⟨due1, dm1, dw1⟩ := sort_ex 2 _ (sh_len c (-1) 0 z2)
        obtain ⟨due2, dm2, dw2⟩ := sort_ex 2 _ (sh_len c 0 (-1) z1)
        have len1 := dm1.length_eq
        have len2 := dm2.length_eq
        rw [List.length_map] at len1 len2
        refine ⟨_, rfl, x2, c, _, Zl, rfl, hPl.mono s26, by omega, by omega, fun A3 ys3 z3 H7 s7 hA3 e3 p3 perm3 pw3 => ?_⟩
        have r3 := plt_rows okl perm3 pw3
        have d1 := plt_due ok okl eGl r3 r2 dm1 dw1
        have l3 : z3.length = z2.length := by rw [← len1, ← d1, List.length_map]
        have k3 := paired_len p3
        have eB7 := s7 _ _ (s6 _ _ eB5)
        refine ⟨A3, _, rfl, .inl (SqL.of e3), _, rfl, A2, _, rfl, .inl (SqL.of eB7), rfl, false, congrArg V.bl (congrArg not (decide_eq_true (congrArg V.int (by omega)))), iteF ?_⟩
        refine ⟨_, rfl, x2, c, _, Zl, rfl, hPl.mono (s26.trans s7), by omega, by omega, fun A4 ys4 z4 H8 s8 hA4 e4 p4 perm4 pw4 => ?_⟩
        have r4 := gap_rows okl perm4 pw4
        have d2 := gap_due ok eGl r4 r1 dm2 dw2
        have l4 : z4.length = z1.length := by rw [← len2, ← d2]
        have k4 := paired_len p4
        have s48 := ((s5.trans s6).trans s7).trans s8
        have eA8 := s48 _ _ eA4
        have eB8 := s48 _ _ eB
        have pA8 : Paired (RowAt H8) ysA z1 := L2.Paired.mapP pA4 fun _ _ h => RowAt.mono s48 h
        have pB8 : Paired (RowAt H8) ysB z2 := L2.Paired.mapP pB fun _ _ h => RowAt.mono s48 h
        refine ⟨A4, _, rfl, .inl (SqL.of e4), _, rfl, A1, _, rfl, .inl (SqL.of eA8), rfl, false, congrArg V.bl (congrArg not (decide_eq_true (congrArg V.int (by omega)))), iteF ?_⟩
        have one3 : ∀ {G : Hp} {F T : Addr} {us : List V} {zs : List (List Int)} {ns : List Int}, G F = some (.lst us) → G T = none → Paired (RowAt G) us zs → Paired (RowAt (upd (upd G T (.tup (ns.map V.int))) F (.lst (us ++ [.ref T])))) (us ++ [.ref T]) (zs ++ [ns]) := fun {G F T us zs ns} hF hT hU => by
          have nTF : T ≠ F := fun e => by rw [e, hF] at hT; cases hT
          exact paired_snoc (L2.Paired.mapP hU fun _ _ ⟨b, e, h⟩ => ⟨b, e, app_keep hF hT h⟩) ⟨T, rfl, by rw [upd_ne nTF]; exact upd_same⟩
        have two' : 2 ≤ sizeLine := by decide
        refine ⟨_, rfl, _, rfl, A2, rfl, ⟨_, SqL.of eB8⟩, fun D3 hD3 => ?_⟩
        refine lc_list (xs := ysB) (fun i H' => ∃ us, Same H8 H' ∧ H' D3 = some (.lst us) ∧ Paired (RowAt H') us ((z2.take i).map fun ns => [ns.getD 0 0 - 1, ns.getD 1 0])) ⟨[], Same.new hD3, upd_same, .nil⟩ (fun i H' _ ⟨_, s1, _⟩ => SqL.of (s1 _ _ eB8)) ?_ ?_
        · rintro i v H' hv ⟨us, s9, e9, hU⟩
          obtain ⟨ns, hg, b, rfl, hb⟩ := paired_at pB8 hv
          obtain ⟨p', q', rfl, _⟩ := (r2.mem ns).mp (List.mem_of_getElem? hg)
          have i1 := (List.getElem?_eq_some_iff.mp hg).1
          have lu := paired_len hU
          rw [List.length_map, List.length_take] at lu
          refine ⟨b, _, rfl, SqT.of (s9 _ _ hb), rfl, _, _, rfl, _, _, rfl, rfl, ?_⟩
          refine ⟨rfl, _, rfl, _, _, rfl, rfl, _, rfl, two', fun T hT => ?_⟩
          refine ⟨us, Same.new hT _ _ e9, smallL (by omega), us ++ [.ref T], app_same (us := us) hD3 s9 hT, upd_same, ?_⟩
          rw [List.take_add_one, hg, List.map_append]
          exact one3 (ns := [p' - 1, q']) e9 hT hU
        · rintro H9 ⟨us, s9, e9, hU⟩
          rw [List.take_of_length_le (by omega)] at hU
          have k200 : 10 * (10 : Int) ^ 30 ≤ 10 ^ 300 := by decide +kernel
          refine ⟨c, D3, us, _, rfl, e9, hU, c1, c30, by rw [List.length_map]; omega, fun ns hn => ?_, fun D4 zd H10 s10 hD4 pmd pwd => ?_⟩
          · obtain ⟨ms, hm, rfl⟩ := List.mem_map.mp hn
            obtain ⟨p', q', rfl, _, a, b⟩ := (r2.mem ms).mp hm
            refine ⟨_, _, rfl, ?_⟩
            unfold Fit
            show -(10 ^ 300) ≤ p' - 1 ∧ p' - 1 ≤ 10 ^ 300
            omega
          have pmd' : zd.Perm (z2.map (sh c (-1) 0)) := by
            rw [List.map_map] at pmd
            rw [show (z2.map (sh c (-1) 0)) = z2.map (homeL c ∘ fun ns => [ns.getD 0 0 - 1, ns.getD 1 0]) from List.map_congr_left fun ns _ => by unfold sh; simp only [Function.comp, Int.add_zero, Int.sub_eq_add_neg]]
            exact pmd
          have s910 := s9.trans s10
          have sY := ((s26.trans s7).trans s8).trans s910
          refine ⟨_, rfl, x2, c, _, Zl, rfl, hPl.mono sY, by omega, by omega, fun A5 ys5 z5 H11 s11 hA5 e5' p5 perm5 pw5 => ?_⟩
          have r5 := plt_rows okl perm5 pw5
          have d5 := plt_due ok okl eGl r5 r2 pmd' pwd
          have k5 := paired_len p5
          have l5 : z5.length ≤ 2000 := by
            have e := congrArg List.length d5
            rw [List.length_map, pmd'.length_eq, List.length_map] at e
            omega
          refine ⟨A5, rfl, ⟨_, SqL.of e5'⟩, fun D5 hD5 => ?_⟩
          refine lc_list (xs := ys5) (fun i H' => ∃ us, Same H11 H' ∧ H' D5 = some (.lst us) ∧ Paired (RowAt H') us ((z5.take i).map two)) ⟨[], Same.new hD5, upd_same, .nil⟩ (fun i H' _ ⟨_, s1, _⟩ => SqL.of (s1 _ _ e5')) ?_ ?_
          · rintro i v H' hv ⟨us, s9, e9, hU⟩
            obtain ⟨ns, hg, b, rfl, hb⟩ := paired_at p5 hv
            obtain ⟨p', q', y', rfl, _⟩ := (r5.mem ns).mp (List.mem_of_getElem? hg)
            have i1 := (List.getElem?_eq_some_iff.mp hg).1
            have lu := paired_len hU
            rw [List.length_map, List.length_take] at lu
            refine ⟨b, _, rfl, SqT.of (s9 _ _ hb), rfl, _, _, rfl, _, _, rfl, _, _, rfl, rfl, ?_⟩
            refine ⟨rfl, _, rfl, _, rfl, two', fun T hT => ?_⟩
            refine ⟨us, Same.new hT _ _ e9, smallL (by omega), us ++ [.ref T], app_same (us := us) hD5 s9 hT, upd_same, ?_⟩
            rw [List.take_add_one, hg, List.map_append]
            exact one3 (ns := [p', q']) e9 hT hU
          · rintro H12 ⟨us5, s12, e12, hU5⟩
            rw [List.take_of_length_le (by omega), d5] at hU5
            have s1012 := s11.trans s12
            refine ⟨_, rfl, .list (zd.map rowD), .list (zd.map rowD), .lst (SqL.of e12) (dp_rows hU5), (hD4.mono s1012).dp, shaped_rows zd, shaped_rows zd, ?_⟩
            rw [eqv_rows]
            refine ⟨false, rfl, iteF ?_⟩
            have sZ := sY.trans s1012
            have s812 := s910.trans s1012
            refine ⟨_, rfl, x2, c, _, Zl, rfl, hPl.mono sZ, by omega, by omega, fun A6 ys6 z6 H13 s13 hA6 e6' p6 perm6 pw6 => ?_⟩
            have r6 := gap_rows okl perm6 pw6
            have eA13 := s13 _ _ (s812 _ _ eA8)
            have pA13 : Paired (RowAt H13) ysA z1 := L2.Paired.mapP pA8 fun _ _ h => RowAt.mono (s812.trans s13) h
            refine ⟨_, rfl, _, rfl, A1, rfl, ⟨_, SqL.of eA13⟩, fun D6 hD6 => ?_⟩
            refine lc_list (xs := ysA) (fun i H' => ∃ us, Same H13 H' ∧ H' D6 = some (.lst us) ∧ Paired (RowAt H') us ((z1.take i).map fun ns => [ns.getD 0 0, ns.getD 1 0 - 1])) ⟨[], Same.new hD6, upd_same, .nil⟩ (fun i H' _ ⟨_, s1, _⟩ => SqL.of (s1 _ _ eA13)) ?_ ?_
            · rintro i v H' hv ⟨us, s9, e9, hU⟩
              obtain ⟨ns, hg, b, rfl, hb⟩ := paired_at pA13 hv
              obtain ⟨p', q', y', rfl, _⟩ := (r1.mem ns).mp (List.mem_of_getElem? hg)
              have i1 := (List.getElem?_eq_some_iff.mp hg).1
              have lu := paired_len hU
              rw [List.length_map, List.length_take] at lu
              refine ⟨b, _, rfl, SqT.of (s9 _ _ hb), rfl, _, _, rfl, _, _, rfl, _, _, rfl, rfl, ?_⟩
              refine ⟨rfl, _, rfl, _, rfl, _, _, rfl, rfl, two', fun T hT => ?_⟩
              refine ⟨us, Same.new hT _ _ e9, smallL (by omega), us ++ [.ref T], app_same (us := us) hD6 s9 hT, upd_same, ?_⟩
              rw [List.take_add_one, hg, List.map_append]
              exact one3 (ns := [p', q' - 1]) e9 hT hU
            · rintro H14 ⟨us6, s14, e14, hU6⟩
              rw [List.take_of_length_le (by omega)] at hU6
              refine ⟨c, D6, us6, _, rfl, e14, hU6, c1, c30, by rw [List.length_map]; omega, fun ns hn => ?_, fun D7 ze H15 s15 hD7 pme pwe => ?_⟩
              · obtain ⟨ms, hm, rfl⟩ := List.mem_map.mp hn
                obtain ⟨p', q', y', rfl, _, a, b⟩ := (r1.mem ms).mp hm
                refine ⟨_, _, rfl, ?_⟩
                unfold Fit
                show -(10 ^ 300) ≤ p' ∧ p' ≤ 10 ^ 300
                omega
              have pme' : ze.Perm (z1.map (sh c 0 (-1))) := by
                rw [List.map_map] at pme
                rw [show (z1.map (sh c 0 (-1))) = z1.map (homeL c ∘ fun ns => [ns.getD 0 0, ns.getD 1 0 - 1]) from List.map_congr_left fun ns _ => by unfold sh; simp only [Function.comp, Int.add_zero, Int.sub_eq_add_neg]]
                exact pme
              have d6 := gap_due ok eGl r6 r1 pme' pwe
              subst d6
              have s1315 := s14.trans s15
              have p6' : RowsL H15 A6 z6 := ⟨ys6, s1315 _ _ e6', L2.Paired.mapP p6 fun _ _ h => RowAt.mono s1315 h⟩
              refine ⟨.list (z6.map rowD), .list (z6.map rowD), p6'.dp, hD7.dp, shaped_rows z6, shaped_rows z6, ?_⟩
              rw [eqv_rows]
              refine ⟨false, rfl, iteF ?_⟩
              have sE := ((s812.trans s13).trans s1315)
              have eA15 := sE _ _ eA8
              have pA15 : Paired (RowAt H15) ysA z1 := L2.Paired.mapP pA8 fun _ _ h => RowAt.mono sE h
              have hPl15 := (hPl.mono sZ).mono (s13.trans s1315)
              have hPas15 : PasAt C H15 x c (2 * 10 ^ 42 + c) Z := (((hPas.mono s2).mono sZ).mono (s13.trans s1315))
              have sAll := (s2.trans sZ).trans (s13.trans s1315)
              have pd15 := pd1.same sAll
              have bT := b1.trans (Same.but sAll)
              have eL : ∀ t, Pm.F c Zl t = Pm.F c (latL c Z) t := fun t => by
                show Pm.FG (Pm.G c Zl) t = Pm.FG (Pm.G c (latL c Z)) t
                rw [eGl]
              have k250 : (10 : Int) ^ 199 * 10 ≤ 10 ^ 250 ∧ (10 : Int) ^ 46 * 10 ≤ 10 ^ 250 ∧ (10 : Int) ^ 45 * 10 ≤ 10 ^ 46 ∧ (10 : Int) ^ 30 * 100 ≤ 10 ^ 42 ∧ (10 : Int) ^ 42 * 100 ≤ 10 ^ 45 := by decide +kernel
              have fB : ∀ t, -(3 * 10 ^ 42) + t ≤ Pm.F c Z t ∧ Pm.F c Z t ≤ 3 * 10 ^ 42 + t := fun t => by
                have := F_bound (x := t) hPas.can hPas.ba
                omega
              refine ⟨_, rfl, ?_⟩
              unfold tNoPart
              refine ⟨_, rfl, A1, _, rfl, SqL.of eA15, fun S hS => ⟨S, rfl, ⟨_, SqL.of upd_same⟩, ?_⟩⟩
              rw [show cutV ysA none (some (20 : Int)) = ysA.take 20 from cut_hiA ysA 20]
              have sS := Same.new hS (o := .lst (ysA.take 20))
              have eS : (upd H15 S (.lst (ysA.take 20))) S = some (.lst (ysA.take 20)) := upd_same
              generalize (upd H15 S (.lst (ysA.take 20))) = H16 at sS eS ⊢
              have hPl16 := hPl15.mono sS
              have hPas16 := hPas15.mono sS
              have pA16 : Paired (RowAt H16) ysA z1 := L2.Paired.mapP pA15 fun _ _ h => RowAt.mono sS h
              have pd16 := pd15.same sS
              have bT16 := bT.trans (Same.but sS)
              refine for_list (xs := ysA.take 20) (fun i σ H' => ∃ (y7 y8 y9 y11 y12 : Option V), σ = [some (.ref p), some (.int c), some (.int m), some (.ref x), some (.ref x2), some (.ref A1), some (.ref A2), y7, y8, y9, some (.ref D4), y11, y12] ∧ Same H16 H')
                ⟨none, none, none, none, none, rfl, Same.refl _⟩ (fun i σ H' _ ⟨_, _, _, _, _, _, h⟩ => SqL.of (h _ _ eS)) ?_ ?_
              · rintro i v σ H' hv ⟨y7, y8, y9, y11, y12, rfl, s17⟩
                have hv' : ysA[i]? = some v := by
                  rw [List.getElem?_take] at hv
                  split at hv
                  · exact hv
                  · cases hv
                obtain ⟨ns, hg, b, rfl, hb⟩ := paired_at pA16 hv'
                obtain ⟨p', q', y', rfl, hp, a0, a1⟩ := (r1.mem ns).mp (List.mem_of_getElem? hg)
                obtain ⟨g1, g2, g3⟩ := plat_is ok hp
                have lt := hp.2.1
                have ep := g2 p' (Int.le_refl _) (by omega)
                have eq' := g2 q' (by omega) (Int.le_refl _)
                have fb1 := fB p'
                have fb2 := fB q'
                have el : Pm.F c Zl y' = q' := by
                  rw [eL]; exact lat_uniq ok (by omega) (by omega)
                have hPas17 := hPas16.mono s17
                have hPl17 := hPl16.mono s17
                obtain ⟨dx7, a7, hx7, _⟩ := hPas17.ob
                obtain ⟨dx8, a8, hx8, _⟩ := hPl17.ob
                refine ⟨b, _, rfl, SqT.of (s17 _ _ hb), rfl, _, _, rfl, _, _, rfl, _, _, rfl, rfl, ?_⟩
                refine ⟨_, rfl, x, rfl, _, rfl, .inr ⟨_, _, hx7⟩, x, c, p', _, Z, rfl, hPas17, by omega, by omega, fun H18 s18 => ⟨_, rfl, rfl, false, congrArg V.bl (congrArg not (decide_eq_true (congrArg V.int ep))), iteF ?_⟩⟩
                refine ⟨_, rfl, x, rfl, _, rfl, .inr ⟨_, _, s18 _ _ hx7⟩, x, c, q', _, Z, rfl, hPas17.mono s18, by omega, by omega, fun H19 s19 => ⟨_, rfl, rfl, false, congrArg V.bl (congrArg not (decide_eq_true (congrArg V.int eq'))), iteF ?_⟩⟩
                have s1719 := s18.trans s19
                refine ⟨_, rfl, x2, rfl, _, rfl, .inr ⟨_, _, s1719 _ _ hx8⟩, x2, c, y', _, Zl, rfl, hPl17.mono s1719, by omega, by omega, fun H20 s20 => ⟨_, rfl, rfl, false, congrArg V.bl (congrArg not (decide_eq_true (congrArg V.int el))), iteF ?_⟩⟩
                have s1720 := s1719.trans s20
                refine ⟨_, rfl, x, rfl, _, rfl, _, _, rfl, rfl, .inr ⟨_, _, s1720 _ _ hx7⟩, x, c, p' - 1, _, Z, rfl, hPas17.mono s1720, by omega, by omega, fun H21 s21 => ⟨_, rfl, rfl, false, congrArg V.bl (decide_eq_false fun e => by have := V.int.inj e; omega), iteF ?_⟩⟩
                have s1721 := s1720.trans s21
                refine ⟨_, rfl, x, rfl, _, rfl, _, _, rfl, rfl, .inr ⟨_, _, s1721 _ _ hx7⟩, x, c, q' + 1, _, Z, rfl, hPas17.mono s1721, by omega, by omega, fun H22 s22 => ⟨_, rfl, rfl, false, congrArg V.bl (decide_eq_false fun e => by have := V.int.inj e; omega), iteF ?_⟩⟩
                exact ⟨_, _, _, _, _, rfl, s17.trans (s1721.trans s22)⟩
              · rintro σ H17 ⟨y7, y8, y9, y11, y12, rfl, s17⟩
                have hPas17 := hPas16.mono s17
                have hPl17 := hPl16.mono s17
                have pd17 := pd16.same s17
                have bT17 := bT16.trans (Same.but s17)
                have cp45 : CPowW 10 45 := ⟨by decide, by decide +kernel⟩
                have k45 : (10 : Int) ^ (45 : Int).toNat = 10 ^ 45 := rfl
                have o45 : (1 : Int) ≤ 10 ^ 45 ∧ (10 : Int) ^ 45 ≤ 10 ^ 100 ∧ 4 * (10 : Int) ^ 30 ≤ 10 ^ 45 := by decide +kernel
                have e110 : (10 : Int) ^ 30 < ((2 ^ 110 : Nat) : Int) := by decide +kernel
                have m4c : CMulW 4 c := wide_mul (a := 10) (b := 110) (by decide) (natAbs_lt (by omega) (by omega)) (by decide) (by decide) (by decide)
                have m2c : CMulW 2 c := wide_mul (a := 10) (b := 110) (by decide) (natAbs_lt (by omega) (by omega)) (by decide) (by decide) (by decide)
                refine ⟨6, rfl, by decide, by decide, ?_⟩
                refine for_range (lo := 0) (fun i σ H' => ∃ (y7 y8 y9 y11 y12 : Option V), σ = [some (.ref p), some (.int c), some (.int m), some (.ref x), some (.ref x2), some (.ref A1), some (.ref A2), y7, y8, y9, some (.ref D4), y11, y12] ∧ But p H17 H' ∧ Pond (n + 20010 + 5 * i) p H')
                  ⟨_, _, _, _, _, rfl, But.refl p H17, pd17.mono (by omega)⟩ ?_ ?_
                · rintro i σ H' hi ⟨y7, y8, y9, y11, y12, rfl, b18, pd18⟩
                  have i6 : i < 6 := by omega
                  obtain ⟨u17, hu17⟩ := pd17.some
                  have hPas18 := hPas17.but b18 hu17
                  have hPl18 := hPl17.but b18 hu17
                  refine ⟨_, rfl, _, rfl, _, _, rfl, rfl, m4c, _, _, rfl, rfl, cp45, two', fun Z1 hZ1 => ?_⟩
                  have pd19 := pd18.new hZ1 (o := .lst [.int (4 * c), .int (10 ^ (45 : Int).toNat)])
                  have hZp : Z1 ≠ p := fun e => by rw [e] at hZ1; exact pd18.ne hZ1
                  refine ⟨_, rfl, p, 2, _, rfl, pd19, by omega, by decide, by decide +kernel, fun r1' H19 b19 pd20 r10 r11 => ?_⟩
                  obtain ⟨w1, hw1, ha1⟩ := pick (xs := [4 * c, 10 ^ (45 : Int).toNat]) r10 r11
                  have lw : 1 ≤ w1 ∧ w1 ≤ 10 ^ 45 := by
                    simp only [List.mem_cons, List.not_mem_nil, or_false] at hw1
                    rw [k45] at hw1
                    omega
                  refine ⟨Z1, _, _, _, rfl, rfl, SqL.of (b19 Z1 _ hZp upd_same), ha1, p, w1, _, rfl, pd20, by omega, lw.1, by omega, fun r2' H20 b20 pd21 r20 r21 => ⟨_, rfl, _, _, rfl, rfl, m2c, _, _, rfl, rfl, ?_⟩⟩
                  obtain ⟨u19, hu19⟩ := pd19.some
                  obtain ⟨u20, hu20⟩ := pd20.some
                  have hP20 : PasAt C H20 x c (2 * 10 ^ 42 + c) Z := (((hPas18.mono (Same.new hZ1)).but b19 hu19).but b20 hu20)
                  have hPl20 := (((hPl18.mono (Same.new hZ1 (o := .lst [.int (4 * c), .int (10 ^ (45 : Int).toNat)]))).but b19 hu19).but b20 hu20)
                  obtain ⟨dx9, a9, hx9, _⟩ := hP20.ob
                  obtain ⟨dx10, a10, hx10, _⟩ := hPl20.ob
                  have fb := fB (r2' - 2 * c)
                  have hl1 := lat_is ok (Pm.F c Z (r2' - 2 * c))
                  have hl2 := lat_is ok (Pm.F c Z (r2' - 2 * c) - 1)
                  rw [← eL] at hl1 hl2
                  refine ⟨_, rfl, x, rfl, _, rfl, .inr ⟨_, _, hx9⟩, x, c, r2' - 2 * c, _, Z, rfl, hP20, by omega, by omega, fun H21 s21 => ?_⟩
                  refine ⟨_, rfl, x2, rfl, _, rfl, .inr ⟨_, _, s21 _ _ hx10⟩, x2, c, Pm.F c Z (r2' - 2 * c), _, Zl, rfl, hPl20.mono s21, by omega, by omega, fun H22 s22 => ⟨_, rfl, _, _, rfl, rfl, false, congrArg V.bl (decide_eq_false fun h => ?_), iteF ?_⟩⟩
                  · have := F_mono ok (show Pm.F c Zl (Pm.F c Z (r2' - 2 * c)) + 1 ≤ r2' - 2 * c by omega)
                    omega
                  refine ⟨_, rfl, x2, rfl, _, rfl, _, _, rfl, rfl, .inr ⟨_, _, (s21.trans s22) _ _ hx10⟩, x2, c, Pm.F c Z (r2' - 2 * c) - 1, _, Zl, rfl, hPl20.mono (s21.trans s22), by omega, by omega, fun H23 s23 => ⟨_, rfl, _, _, rfl, rfl, false, congrArg V.bl (decide_eq_false fun h => ?_), iteF ?_⟩⟩
                  · have := F_mono ok (show r2' - 2 * c ≤ Pm.F c Zl (Pm.F c Z (r2' - 2 * c) - 1) by omega)
                    omega
                  have s2123 := (s21.trans s22).trans s23
                  exact ⟨_, _, _, _, _, rfl, (((b18.new hZ1).trans b19).trans b20).trans (Same.but s2123), (pd21.same s2123).mono (by push_cast; omega)⟩
                · rintro σ H18 ⟨y7, y8, y9, y11, y12, rfl, b18, pd18⟩
                  exact q _ (bT17.trans b18) (pd18.mono (by omega))
end
end Gr

set_option Elab.async false
set_option linter.all false
set_option pp.deepTerms false
set_option pp.maxSteps 3000
set_option maxRecDepth 100000
set_option maxHeartbeats 8000000
set_option exponentiation.threshold 3000
namespace Gr
open PySem PySem.Spec PyProof.Rows L2
open Pm (Rn)
theorem But.same2 {p : Addr} {H H1 H2 : Hp} (b : But p H1 H2) (s : Same H H1) (hp : H p = none) : Same H H2 := fun q o e => b q o (ne_of_none e hp) (s q o e)
def spLaw (K : PySem.W.Frag) : Sp := fun vs H Q _ => ∃ (a : Addr) (ns : List Int), vs = [.ref a] ∧ SqL K H a (ns.map V.int) ∧ ns.length ≤ 63 ∧ ∀ H', Q (.bl true) H'
theorem ok_ex : Pm.Ok 10 [(2, 3, 5)] :=
  ⟨by decide, by simp, fun r hr => by rw [List.mem_singleton.mp hr]; decide, List.pairwise_singleton _ _, fun r hr s hs => by
    rw [List.mem_singleton.mp hr, List.mem_singleton.mp hs]; decide⟩
theorem can_ex : Pm.Can 10 [(2, 3, 5)] := by
  refine ⟨ok_ex, .inr ⟨fun r hr => by rw [List.mem_singleton.mp hr]; decide, fun r hr => ?_⟩⟩
  rw [List.mem_singleton.mp hr]
  constructor <;> (rintro ⟨r, hr, k, h1, h2, h3⟩; rw [List.mem_singleton.mp hr] at h1 h2 h3; simp only [Pm.la] at h1 h2 h3; omega)
theorem lat_ex : latL 10 [(2, 3, 5)] = [(4, 4, -7), (5, 5, 2)] := by decide +kernel
theorem can_ex2 : Pm.Can 10 [(4, 4, -7), (5, 5, 2)] := by
  refine ⟨lat_ex ▸ lat_ok ok_ex, .inr ⟨fun r hr => ?_, fun r hr => ?_⟩⟩
  · simp only [List.mem_cons, List.not_mem_nil, or_false] at hr
    rcases hr with rfl | rfl <;> decide
  · simp only [List.mem_cons, List.not_mem_nil, or_false] at hr
    rcases hr with rfl | rfl <;> constructor <;> (rintro ⟨r, hr, k, h1, h2, h3⟩; simp only [List.mem_cons, List.not_mem_nil, or_false] at hr; rcases hr with rfl | rfl <;> (simp only [Pm.la] at h1 h2 h3; omega))
theorem ex_4 : Pm.F 10 [(4, 4, -7), (5, 5, 2)] 4 = -7 := F_last can_ex2.1 ⟨(4, 4, -7), by simp, 0, by decide, by decide, by decide⟩
section
variable {P : Program} {w : World} {K : PySem.W.Frag} {mg : Str → Option Value} {base : Heap} {tC : Tok}
theorem ok_law {C fI fC f f1 f2 f3 f4 f5 : Addr} {fdI fdC fd fd1 fd2 fd3 fd4 fd5 : FuncData} (B : Blt mg tC) (TP : TxtP K mg C fI fC) (Dlaw : Def K mg "law" s_law ["_law_script"] f fd) (Dl_spring : Def K mg "_law_spring" s_l_spring ["_law_script", "_law_k"] f1 fd1) (Dl_take : Def K mg "_law_take" s_l_take ["_law_spring_here", "_law_many"] f2 fd2) (Dl_cycle : Def K mg "_law_cycle" s_l_cycle ["_law_spring_here"] f3 fd3) (Dl_right : Def K mg "_law_right" s_l_right ["_law_spring_here", "_law_cycle_here", "_law_many"] f4 fd4) (DP_latest : DefM K "latest" "Passage.latest" s_P_latest ["self"] f5 fd5) (DP_call : DefM K "__call__" "Passage.__call__" s_P_call ["self", "start"] fC fdC) (DP_init : DefM K "__init__" "Passage.__init__" s_P_init ["self", "cycle", "runs"] fI fdI)
    (GP_init : FnOk P w K mg base CX0 4 fI fdI ["self", "cycle", "runs"] (spInitP C)) (MP_latest : Meth K C "latest" f5) (GP_call : FnOk P w K mg base CX0 3 fC fdC ["self", "start"] (spCallP C)) (GP_latest : FnOk P w K mg base CX0 6 f5 fd5 ["self"] (spLatest C))
    (Gl_right : FnOk P w K mg base CX0 7 f4 fd4 ["_law_spring_here", "_law_cycle_here", "_law_many"] spRight63) : FnG P w K mg base CX0 8 f fd ["_law_script"] (spLaw K) := by
  have Gl_take := (ok_take (P := P) (w := w) (base := base) B Dl_take)
  have Gl_spring := (ok_spring (P := P) (w := w) (base := base) B Dl_spring)
  have Gl_cycle := (ok_cycle (P := P) (w := w) (base := base) B Dl_cycle Dl_take)
  have CO := TP.co
  have RP_call := raw_callP (C := C) GP_call DP_call.b
  refine okG Dlaw.F sclaw (fun vs H Q E h => ?_) (fun cdv A outer s H vs Q E hf hr h => ⟨_, (pss_cons (ps_for PassesOwn.never rfl (pi_range1 (by rfl) B.range (pa_cons (pe_callB (call_max2 rfl) (by rfl) B.n_max (by decide +kernel) (pa_cons pe_int (pa_cons (pe_callB (call_min2 rfl) (by rfl) B.n_min (by decide +kernel) (pa_cons pe_int (pa_cons (pe_callB call_len_seq (by rfl) B.len PySem.boot_len (pa_cons (pv 0) pa_nil)) pa_nil))) pa_nil))) pa_nil)) (pg_name (i := 1) sclaw.nd rfl (Or.inl rfl))
   (pss_cons (ps_set (i := 2) sclaw.nd rfl (Or.inl rfl) (pe_call Gl_spring (hr.mono (by decide)) (by rfl) Dl_spring.g Dl_spring.F.kp Dl_spring.b .nil pass0 (pa_cons (pv 0) (pa_cons (pv 1) pa_nil))))
  (pss_cons (ps_for PassesOwn.never rfl (pi_range1 (by rfl) B.range (pa_cons (pe_ifExp (pt_cmpR op_eq (pv 1) pe_int (nomark _)) pe_int pe_int) pa_nil)) (pg_name (i := 3) sclaw.nd rfl (Or.inl rfl))
   (pss_one (ps_if (pt_not (pt_val (pe_call Gl_right (hr.mono (by decide)) (by rfl) Dl_right.g Dl_right.F.kp Dl_right.b .nil pass0 (pa_cons (pv 2) (pa_cons (pe_call Gl_cycle (hr.mono (by decide)) (by rfl) Dl_cycle.g Dl_cycle.F.kp Dl_cycle.b .nil pass0 (pa_cons (pv 2) pa_nil)) (pa_cons pe_int pa_nil))))))
   (pss_one (ps_ret pe_bl))
   pss_nil)))
  (pss_one (ps_if (PW.pt (pw_and (pt_cmpR op_eq (pv 1) pe_int (nomark _)) (pw_and1 (pt_not (pt_val (pe_call Gl_right (hr.mono (by decide)) (by rfl) Dl_right.g Dl_right.F.kp Dl_right.b .nil pass0 (pa_cons (pv 2) (pa_cons (pe_op op_sub (pe_op op_powW pe_int pe_int) pe_int) (pa_cons pe_int pa_nil)))))))))
   (pss_one (ps_ret pe_bl))
   pss_nil)))))
  (pss_one (ps_ret (pe_cmpR op_eq (StX.pe_callO (pe_meth0 (pe_make TP.mks GP_init (hr.mono (by decide)) (by rfl) TP.mgC DP_init.b .nil pass0 (pa_cons pe_int (pa_cons (pe_tup (pa_cons (pe_tup (pa_cons pe_int (pa_cons pe_int (pa_cons pe_int pa_nil)))) pa_nil)) pa_nil))) TP.cl MP_latest GP_latest (hr.mono (by decide)) DP_latest.b .nil pass0) CO RP_call (hr.mono (by decide)) pass0 (pa_cons pe_int pa_nil)) (pe_un un_neg pe_int) (nomark _))))), ?_⟩)
  · obtain ⟨a, ns, rfl, _⟩ := h; rfl
  · obtain ⟨a, ns, rfl, hS, hl, q⟩ := h
    refine ⟨_, rfl, a, _, rfl, .inl hS, _, _, rfl, _, _, rfl, _, rfl, ?_, ?_, ?_⟩
    · rw [List.length_map]; split <;> split <;> omega
    · rw [List.length_map]; split <;> split <;> omega
    refine for_range (lo := 0) (fun i σ H' => ∃ (y1 y2 y3 : Option V), σ = [some (.ref a), y1, y2, y3] ∧ Same H H') ⟨_, _, _, rfl, Same.refl H⟩ ?_ ?_
    · rintro k σ H0 hk ⟨y1, y2, y3, rfl, s0⟩
      have k8 : k ≤ 8 := by
        rw [List.length_map] at hk
        split at hk <;> split at hk <;> omega
      refine ⟨_, rfl, _, rfl, a, _, ns, rfl, s0.seq hS, by omega, by omega, fun p H1 hp0 s1 pd1 => ?_⟩
      have cp30 : CPowW 10 30 := ⟨by decide, by decide +kernel⟩
      have k30 : (10 : Int) ^ (30 : Int).toNat = 10 ^ 30 := rfl
      have k9 : (9 : Int) < 10 ^ 30 := by decide +kernel
      refine ⟨_, rfl, rfl, _, rfl, ?_⟩
      by_cases hk0 : (0 + (k : Int)) = 0
      · refine iteY (congrArg V.int hk0) ⟨5, rfl, by decide, by decide, ?_⟩
        refine for_range (lo := 0) (fun i σ H' => ∃ (y3 : Option V), σ = [some (.ref a), some (.int (0 + (k : Int))), some (.ref p), y3] ∧ But p H1 H' ∧ Pond (40000 * i) p H') ⟨_, rfl, But.refl p H1, pd1.mono (by omega)⟩ ?_ ?_
        · rintro i σ H2 hi ⟨y3, rfl, b2, pd2⟩
          have i4 : i < 5 := by omega
          refine ⟨_, rfl, _, rfl, p, _, rfl, pd2, by omega, fun c1 H3 b3 pd3 c10 c11 => ?_⟩
          refine ⟨p, _, c1, 9, rfl, pd3, by omega, c10, c11, by decide, by decide, fun H4 b4 pd4 => ⟨true, rfl, iteF ?_⟩⟩
          exact ⟨_, rfl, (b2.trans b3).trans b4, pd4.mono (by push_cast; omega)⟩
        · rintro σ H2 ⟨y3, rfl, b2, pd2⟩
          refine ⟨_, rfl, rfl, _, rfl, ?_⟩
          rw [decide_eq_true (congrArg V.int hk0)]
          refine ⟨_, rfl, _, _, rfl, rfl, cp30, _, _, rfl, rfl, ?_⟩
          refine ⟨p, _, 10 ^ (30 : Int).toNat - 7, 300, rfl, pd2, by omega, by omega, by omega, by decide, by decide, fun H4 b4 pd4 => ⟨true, rfl, iteF ?_⟩⟩
          exact ⟨_, _, _, rfl, s0.trans ((b2.trans b4).same2 s1 hp0)⟩
      · refine iteN (fun e => hk0 (V.int.inj e)) ⟨3, rfl, by decide, by decide, ?_⟩
        refine for_range (lo := 0) (fun i σ H' => ∃ (y3 : Option V), σ = [some (.ref a), some (.int (0 + (k : Int))), some (.ref p), y3] ∧ But p H1 H' ∧ Pond (40000 * i) p H') ⟨_, rfl, But.refl p H1, pd1.mono (by omega)⟩ ?_ ?_
        · rintro i σ H2 hi ⟨y3, rfl, b2, pd2⟩
          have i4 : i < 5 := by omega
          refine ⟨_, rfl, _, rfl, p, _, rfl, pd2, by omega, fun c1 H3 b3 pd3 c10 c11 => ?_⟩
          refine ⟨p, _, c1, 9, rfl, pd3, by omega, c10, c11, by decide, by decide, fun H4 b4 pd4 => ⟨true, rfl, iteF ?_⟩⟩
          exact ⟨_, rfl, (b2.trans b3).trans b4, pd4.mono (by push_cast; omega)⟩
        · rintro σ H2 ⟨y3, rfl, b2, pd2⟩
          refine ⟨_, rfl, rfl, _, rfl, ?_⟩
          rw [decide_eq_false (fun e => hk0 (V.int.inj e))]
          exact ⟨_, _, _, rfl, s0.trans (b2.same2 s1 hp0)⟩
    · rintro σ H0 ⟨y1, y2, y3, rfl, s0⟩
      have three : 3 ≤ sizeLine := by decide
      have two : 2 ≤ sizeLine := by decide
      have one : 1 ≤ sizeLine := by decide
      have le30 : (10 : Int) ≤ 10 ^ 30 := by decide +kernel
      refine ⟨three, fun T hT => ⟨one, fun U hU => ?_⟩⟩
      intro x dx hx hdx nx
      have sTU := (Same.new hT (o := .tup [.int 2, .int 3, .int 5])).trans (Same.new hU (o := .tup [.ref T]))
      have sM := same_make (C := C) hx hdx
      refine ⟨x, dx, U, 10, 100, [(2, 3, 5)], rfl, upd_same, ⟨_, sM _ _ upd_same, .cons ⟨T, rfl, sM _ _ (Same.new hU _ _ upd_same)⟩ .nil⟩, ok_ex, le30, by simp, fun r hr => by rw [List.mem_singleton.mp hr]; simp, by decide +kernel, fun H1 Z kp hPas hGr lz => ⟨rfl, ?_⟩⟩
      have eG := F_same hGr
      have eZ : Z = [(2, 3, 5)] := hPas.can.uniq can_ex fun z y => (hGr z y).symm
      subst eZ
      obtain ⟨dx1, a1, hx1, _⟩ := hPas.ob
      have m199 : (2 * 100 + 10 : Int) ≤ 10 ^ 199 := by decide +kernel
      refine ⟨x, dx1, _, rfl, hx1, fldP_no, x, _, _, _, rfl, hPas, by decide, m199, fun x3 H3 Z3 s3 hP3 hG3 l3 => ?_⟩
      have eZ3 : Z3 = [(4, 4, -7), (5, 5, 2)] := hP3.can.uniq can_ex2 fun z y => by rw [← hG3 z y, lat_ex]
      subst eZ3
      obtain ⟨dx3, a3, hx3, hS3⟩ := hP3.ob
      refine ⟨x3, rfl, .inr ⟨_, _, hx3⟩, x3, 10, 4, _, _, rfl, hP3, by decide +kernel, by decide +kernel, fun H5 s5 => ?_⟩
      rw [ex_4]
      refine ⟨_, rfl, rfl, ?_⟩
      exact q _
end
end Gr

set_option Elab.async false
set_option linter.all false
set_option maxRecDepth 100000
set_option maxHeartbeats 8000000
namespace Gr
open PySem PySem.Spec PyProof.Rows L2
theorem all_mk {l : PySem.W.OpenLaw} {w : World} {K : PySem.W.Frag} {h : Heap} {mg : Str → Option Value} {fa C : Addr} (X : K.In h) (G : h.Ns mainGlobals mg) (hfa : mg "law" = some (.ref fa))
    (aC : PySem.W.nsIn K mainGlobals "Passage" = some (some (.ref C))) (pg : PySem.W.plainGet K C Str.empty = true) (hd : PySem.W.hasDictIn K C = true) (po : PySem.W.plainOver K C = true) (sa : PySem.W.findIn K (.ref C) "__setattr__" = some (some (.builtin "object.__setattr__"))) (mi : PySem.W.makesIn K C = true) (kC : PySem.W.keepIn K (.ref C) = true)
    (nA0 : PySem.W.findIn K (.ref C) "cycle" = some none)
    (nA1 : PySem.W.findIn K (.ref C) "runs" = some none)
    (iha : PySem.W.findIn K (.ref C) "__class__" = some (some (.builtin "object.__class__")))
    (ihn : PySem.W.specialIn K (.builtin "object.__class__") "__get__" = some (some (.builtin "getset_descriptor.__get__")))
    (ihtk : PySem.W.takesIn K (.builtin "object.__class__") = some true)
    (ihm : PySem.W.mroIn K C (.type "object") = some true)
    {f0 : Addr} {od0 an0 : Option Addr} {sl0 : Array (Option Value)} {oc0 kV0 dc0 pm0 cd0 ct0 : Value}
    (a0 : PySem.W.nsIn K mainGlobals "is_whole" = some (some (.ref f0))) (l0 : K.lookup f0 = some ⟨oc0, od0, .func (PySem.W.fnOf "is_whole" "is_whole" (defArgs s_is_whole) (defBody s_is_whole) (defScope s_is_whole) .none kV0 dc0 pm0 an0 cd0 ct0), sl0⟩) (c0 : PySem.W.codeIn K cd0 "is_whole" = true) (k0 : PySem.W.keepIn K (.ref f0) = true)
    {f1 : Addr} {od1 an1 : Option Addr} {sl1 : Array (Option Value)} {oc1 kV1 dc1 pm1 cd1 ct1 : Value}
    (a1 : PySem.W.nsIn K mainGlobals "check_cycle" = some (some (.ref f1))) (l1 : K.lookup f1 = some ⟨oc1, od1, .func (PySem.W.fnOf "check_cycle" "check_cycle" (defArgs s_check_cycle) (defBody s_check_cycle) (defScope s_check_cycle) .none kV1 dc1 pm1 an1 cd1 ct1), sl1⟩) (c1 : PySem.W.codeIn K cd1 "check_cycle" = true) (k1 : PySem.W.keepIn K (.ref f1) = true)
    {f2 : Addr} {od2 an2 : Option Addr} {sl2 : Array (Option Value)} {oc2 kV2 dc2 pm2 cd2 ct2 : Value}
    (a2 : PySem.W.nsIn K mainGlobals "check_moment" = some (some (.ref f2))) (l2 : K.lookup f2 = some ⟨oc2, od2, .func (PySem.W.fnOf "check_moment" "check_moment" (defArgs s_check_moment) (defBody s_check_moment) (defScope s_check_moment) .none kV2 dc2 pm2 an2 cd2 ct2), sl2⟩) (c2 : PySem.W.codeIn K cd2 "check_moment" = true) (k2 : PySem.W.keepIn K (.ref f2) = true)
    {f3 : Addr} {od3 an3 : Option Addr} {sl3 : Array (Option Value)} {oc3 kV3 dc3 pm3 cd3 ct3 : Value}
    (a3 : PySem.W.nsIn K mainGlobals "is_run" = some (some (.ref f3))) (l3 : K.lookup f3 = some ⟨oc3, od3, .func (PySem.W.fnOf "is_run" "is_run" (defArgs s_is_run) (defBody s_is_run) (defScope s_is_run) .none kV3 dc3 pm3 an3 cd3 ct3), sl3⟩) (c3 : PySem.W.codeIn K cd3 "is_run" = true) (k3 : PySem.W.keepIn K (.ref f3) = true)
    {f4 : Addr} {od4 an4 : Option Addr} {sl4 : Array (Option Value)} {oc4 kV4 dc4 pm4 cd4 ct4 : Value}
    (a4 : PySem.W.nsIn K mainGlobals "are_runs" = some (some (.ref f4))) (l4 : K.lookup f4 = some ⟨oc4, od4, .func (PySem.W.fnOf "are_runs" "are_runs" (defArgs s_are_runs) (defBody s_are_runs) (defScope s_are_runs) .none kV4 dc4 pm4 an4 cd4 ct4), sl4⟩) (c4 : PySem.W.codeIn K cd4 "are_runs" = true) (k4 : PySem.W.keepIn K (.ref f4) = true)
    {f5 : Addr} {od5 an5 : Option Addr} {sl5 : Array (Option Value)} {oc5 kV5 dc5 pm5 cd5 ct5 : Value}
    (a5 : PySem.W.nsIn K mainGlobals "goes_on" = some (some (.ref f5))) (l5 : K.lookup f5 = some ⟨oc5, od5, .func (PySem.W.fnOf "goes_on" "goes_on" (defArgs s_goes_on) (defBody s_goes_on) (defScope s_goes_on) .none kV5 dc5 pm5 an5 cd5 ct5), sl5⟩) (c5 : PySem.W.codeIn K cd5 "goes_on" = true) (k5 : PySem.W.keepIn K (.ref f5) = true)
    {f6 : Addr} {od6 an6 : Option Addr} {sl6 : Array (Option Value)} {oc6 kV6 dc6 pm6 cd6 ct6 : Value}
    (a6 : PySem.W.nsIn K mainGlobals "joins" = some (some (.ref f6))) (l6 : K.lookup f6 = some ⟨oc6, od6, .func (PySem.W.fnOf "joins" "joins" (defArgs s_joins) (defBody s_joins) (defScope s_joins) .none kV6 dc6 pm6 an6 cd6 ct6), sl6⟩) (c6 : PySem.W.codeIn K cd6 "joins" = true) (k6 : PySem.W.keepIn K (.ref f6) = true)
    {f7 : Addr} {od7 an7 : Option Addr} {sl7 : Array (Option Value)} {oc7 kV7 dc7 pm7 cd7 ct7 : Value}
    (a7 : PySem.W.nsIn K mainGlobals "last_arrival" = some (some (.ref f7))) (l7 : K.lookup f7 = some ⟨oc7, od7, .func (PySem.W.fnOf "last_arrival" "last_arrival" (defArgs s_last_arrival) (defBody s_last_arrival) (defScope s_last_arrival) .none kV7 dc7 pm7 an7 cd7 ct7), sl7⟩) (c7 : PySem.W.codeIn K cd7 "last_arrival" = true) (k7 : PySem.W.keepIn K (.ref f7) = true)
    {f8 : Addr} {od8 an8 : Option Addr} {sl8 : Array (Option Value)} {oc8 kV8 dc8 pm8 cd8 ct8 : Value}
    (a8 : PySem.W.nsIn K mainGlobals "moved" = some (some (.ref f8))) (l8 : K.lookup f8 = some ⟨oc8, od8, .func (PySem.W.fnOf "moved" "moved" (defArgs s_moved) (defBody s_moved) (defScope s_moved) .none kV8 dc8 pm8 an8 cd8 ct8), sl8⟩) (c8 : PySem.W.codeIn K cd8 "moved" = true) (k8 : PySem.W.keepIn K (.ref f8) = true)
    {f9 : Addr} {od9 an9 : Option Addr} {sl9 : Array (Option Value)} {oc9 kV9 dc9 pm9 cd9 ct9 : Value}
    (a9 : PySem.W.nsIn K mainGlobals "ascending" = some (some (.ref f9))) (l9 : K.lookup f9 = some ⟨oc9, od9, .func (PySem.W.fnOf "ascending" "ascending" (defArgs s_ascending) (defBody s_ascending) (defScope s_ascending) .none kV9 dc9 pm9 an9 cd9 ct9), sl9⟩) (c9 : PySem.W.codeIn K cd9 "ascending" = true) (k9 : PySem.W.keepIn K (.ref f9) = true)
    {f10 : Addr} {od10 an10 : Option Addr} {sl10 : Array (Option Value)} {oc10 kV10 dc10 pm10 cd10 ct10 : Value}
    (a10 : PySem.W.nsIn K mainGlobals "run_pairs" = some (some (.ref f10))) (l10 : K.lookup f10 = some ⟨oc10, od10, .func (PySem.W.fnOf "run_pairs" "run_pairs" (defArgs s_run_pairs) (defBody s_run_pairs) (defScope s_run_pairs) .none kV10 dc10 pm10 an10 cd10 ct10), sl10⟩) (c10 : PySem.W.codeIn K cd10 "run_pairs" = true) (k10 : PySem.W.keepIn K (.ref f10) = true)
    {f11 : Addr} {od11 an11 : Option Addr} {sl11 : Array (Option Value)} {oc11 kV11 dc11 pm11 cd11 ct11 : Value}
    (a11 : PySem.W.nsIn K mainGlobals "longest_runs" = some (some (.ref f11))) (l11 : K.lookup f11 = some ⟨oc11, od11, .func (PySem.W.fnOf "longest_runs" "longest_runs" (defArgs s_longest_runs) (defBody s_longest_runs) (defScope s_longest_runs) .none kV11 dc11 pm11 an11 cd11 ct11), sl11⟩) (c11 : PySem.W.codeIn K cd11 "longest_runs" = true) (k11 : PySem.W.keepIn K (.ref f11) = true)
    {f12 : Addr} {od12 an12 : Option Addr} {sl12 : Array (Option Value)} {oc12 kV12 dc12 pm12 cd12 ct12 : Value}
    (a12 : PySem.W.nsIn K mainGlobals "place_of" = some (some (.ref f12))) (l12 : K.lookup f12 = some ⟨oc12, od12, .func (PySem.W.fnOf "place_of" "place_of" (defArgs s_place_of) (defBody s_place_of) (defScope s_place_of) .none kV12 dc12 pm12 an12 cd12 ct12), sl12⟩) (c12 : PySem.W.codeIn K cd12 "place_of" = true) (k12 : PySem.W.keepIn K (.ref f12) = true)
    {f13 : Addr} {od13 an13 : Option Addr} {sl13 : Array (Option Value)} {oc13 kV13 dc13 pm13 cd13 ct13 : Value}
    (a13 : PySem.W.nsIn K mainGlobals "arrival_by_run" = some (some (.ref f13))) (l13 : K.lookup f13 = some ⟨oc13, od13, .func (PySem.W.fnOf "arrival_by_run" "arrival_by_run" (defArgs s_arrival_by_run) (defBody s_arrival_by_run) (defScope s_arrival_by_run) .none kV13 dc13 pm13 an13 cd13 ct13), sl13⟩) (c13 : PySem.W.codeIn K cd13 "arrival_by_run" = true) (k13 : PySem.W.keepIn K (.ref f13) = true)
    {f14 : Addr} {od14 an14 : Option Addr} {sl14 : Array (Option Value)} {oc14 kV14 dc14 pm14 cd14 ct14 : Value}
    (a14 : PySem.W.nsIn K mainGlobals "arrival_at" = some (some (.ref f14))) (l14 : K.lookup f14 = some ⟨oc14, od14, .func (PySem.W.fnOf "arrival_at" "arrival_at" (defArgs s_arrival_at) (defBody s_arrival_at) (defScope s_arrival_at) .none kV14 dc14 pm14 an14 cd14 ct14), sl14⟩) (c14 : PySem.W.codeIn K cd14 "arrival_at" = true) (k14 : PySem.W.keepIn K (.ref f14) = true)
    {f15 : Addr} {od15 an15 : Option Addr} {sl15 : Array (Option Value)} {oc15 kV15 dc15 pm15 cd15 ct15 : Value}
    (a15 : PySem.W.nsIn K mainGlobals "latest_runs" = some (some (.ref f15))) (l15 : K.lookup f15 = some ⟨oc15, od15, .func (PySem.W.fnOf "latest_runs" "latest_runs" (defArgs s_latest_runs) (defBody s_latest_runs) (defScope s_latest_runs) .none kV15 dc15 pm15 an15 cd15 ct15), sl15⟩) (c15 : PySem.W.codeIn K cd15 "latest_runs" = true) (k15 : PySem.W.keepIn K (.ref f15) = true)
    {f16 : Addr} {od16 an16 : Option Addr} {sl16 : Array (Option Value)} {oc16 kV16 dc16 pm16 cd16 ct16 : Value}
    (a16 : PySem.W.findIn K (.ref C) "__init__" = some (some (.ref f16))) (i16 : PySem.W.isFn K (.ref f16) = true) (l16 : K.lookup f16 = some ⟨oc16, od16, .func (PySem.W.fnOf "__init__" "Passage.__init__" (defArgs s_P_init) (defBody s_P_init) (defScope s_P_init) .none kV16 dc16 pm16 an16 cd16 ct16), sl16⟩) (c16 : PySem.W.codeIn K cd16 "Passage.__init__" = true) (k16 : PySem.W.keepIn K (.ref f16) = true)
    {f17 : Addr} {od17 an17 : Option Addr} {sl17 : Array (Option Value)} {oc17 kV17 dc17 pm17 cd17 ct17 : Value}
    (a17 : PySem.W.findIn K (.ref C) "__call__" = some (some (.ref f17))) (i17 : PySem.W.isFn K (.ref f17) = true) (y17 : PySem.W.fnIn K f17 = true) (l17 : K.lookup f17 = some ⟨oc17, od17, .func (PySem.W.fnOf "__call__" "Passage.__call__" (defArgs s_P_call) (defBody s_P_call) (defScope s_P_call) .none kV17 dc17 pm17 an17 cd17 ct17), sl17⟩) (c17 : PySem.W.codeIn K cd17 "Passage.__call__" = true) (k17 : PySem.W.keepIn K (.ref f17) = true)
    {f18 : Addr} {od18 an18 : Option Addr} {sl18 : Array (Option Value)} {oc18 kV18 dc18 pm18 cd18 ct18 : Value}
    (a18 : PySem.W.findIn K (.ref C) "latest" = some (some (.ref f18))) (i18 : PySem.W.isFn K (.ref f18) = true) (l18 : K.lookup f18 = some ⟨oc18, od18, .func (PySem.W.fnOf "latest" "Passage.latest" (defArgs s_P_latest) (defBody s_P_latest) (defScope s_P_latest) .none kV18 dc18 pm18 an18 cd18 ct18), sl18⟩) (c18 : PySem.W.codeIn K cd18 "Passage.latest" = true) (k18 : PySem.W.keepIn K (.ref f18) = true)
    {f19 : Addr} {od19 an19 : Option Addr} {sl19 : Array (Option Value)} {oc19 kV19 dc19 pm19 cd19 ct19 : Value}
    (a19 : PySem.W.nsIn K mainGlobals "check_passage" = some (some (.ref f19))) (l19 : K.lookup f19 = some ⟨oc19, od19, .func (PySem.W.fnOf "check_passage" "check_passage" (defArgs s_check_passage) (defBody s_check_passage) (defScope s_check_passage) .none kV19 dc19 pm19 an19 cd19 ct19), sl19⟩) (c19 : PySem.W.codeIn K cd19 "check_passage" = true) (k19 : PySem.W.keepIn K (.ref f19) = true)
    {f20 : Addr} {od20 an20 : Option Addr} {sl20 : Array (Option Value)} {oc20 kV20 dc20 pm20 cd20 ct20 : Value}
    (a20 : PySem.W.nsIn K mainGlobals "platoons" = some (some (.ref f20))) (l20 : K.lookup f20 = some ⟨oc20, od20, .func (PySem.W.fnOf "platoons" "platoons" (defArgs s_platoons) (defBody s_platoons) (defScope s_platoons) .none kV20 dc20 pm20 an20 cd20 ct20), sl20⟩) (c20 : PySem.W.codeIn K cd20 "platoons" = true) (k20 : PySem.W.keepIn K (.ref f20) = true)
    {f21 : Addr} {od21 an21 : Option Addr} {sl21 : Array (Option Value)} {oc21 kV21 dc21 pm21 cd21 ct21 : Value}
    (a21 : PySem.W.nsIn K mainGlobals "gaps" = some (some (.ref f21))) (l21 : K.lookup f21 = some ⟨oc21, od21, .func (PySem.W.fnOf "gaps" "gaps" (defArgs s_gaps) (defBody s_gaps) (defScope s_gaps) .none kV21 dc21 pm21 an21 cd21 ct21), sl21⟩) (c21 : PySem.W.codeIn K cd21 "gaps" = true) (k21 : PySem.W.keepIn K (.ref f21) = true)
    {f22 : Addr} {od22 an22 : Option Addr} {sl22 : Array (Option Value)} {oc22 kV22 dc22 pm22 cd22 ct22 : Value}
    (a22 : PySem.W.nsIn K mainGlobals "_law_spring" = some (some (.ref f22))) (l22 : K.lookup f22 = some ⟨oc22, od22, .func (PySem.W.fnOf "_law_spring" "_law_spring" (defArgs s_l_spring) (defBody s_l_spring) (defScope s_l_spring) .none kV22 dc22 pm22 an22 cd22 ct22), sl22⟩) (c22 : PySem.W.codeIn K cd22 "_law_spring" = true) (k22 : PySem.W.keepIn K (.ref f22) = true)
    {f23 : Addr} {od23 an23 : Option Addr} {sl23 : Array (Option Value)} {oc23 kV23 dc23 pm23 cd23 ct23 : Value}
    (a23 : PySem.W.nsIn K mainGlobals "_law_take" = some (some (.ref f23))) (l23 : K.lookup f23 = some ⟨oc23, od23, .func (PySem.W.fnOf "_law_take" "_law_take" (defArgs s_l_take) (defBody s_l_take) (defScope s_l_take) .none kV23 dc23 pm23 an23 cd23 ct23), sl23⟩) (c23 : PySem.W.codeIn K cd23 "_law_take" = true) (k23 : PySem.W.keepIn K (.ref f23) = true)
    {f24 : Addr} {od24 an24 : Option Addr} {sl24 : Array (Option Value)} {oc24 kV24 dc24 pm24 cd24 ct24 : Value}
    (a24 : PySem.W.nsIn K mainGlobals "_law_cycle" = some (some (.ref f24))) (l24 : K.lookup f24 = some ⟨oc24, od24, .func (PySem.W.fnOf "_law_cycle" "_law_cycle" (defArgs s_l_cycle) (defBody s_l_cycle) (defScope s_l_cycle) .none kV24 dc24 pm24 an24 cd24 ct24), sl24⟩) (c24 : PySem.W.codeIn K cd24 "_law_cycle" = true) (k24 : PySem.W.keepIn K (.ref f24) = true)
    {f25 : Addr} {od25 an25 : Option Addr} {sl25 : Array (Option Value)} {oc25 kV25 dc25 pm25 cd25 ct25 : Value}
    (a25 : PySem.W.nsIn K mainGlobals "_law_shares" = some (some (.ref f25))) (l25 : K.lookup f25 = some ⟨oc25, od25, .func (PySem.W.fnOf "_law_shares" "_law_shares" (defArgs s_l_shares) (defBody s_l_shares) (defScope s_l_shares) .none kV25 dc25 pm25 an25 cd25 ct25), sl25⟩) (c25 : PySem.W.codeIn K cd25 "_law_shares" = true) (k25 : PySem.W.keepIn K (.ref f25) = true)
    {f26 : Addr} {od26 an26 : Option Addr} {sl26 : Array (Option Value)} {oc26 kV26 dc26 pm26 cd26 ct26 : Value}
    (a26 : PySem.W.nsIn K mainGlobals "_law_rows" = some (some (.ref f26))) (l26 : K.lookup f26 = some ⟨oc26, od26, .func (PySem.W.fnOf "_law_rows" "_law_rows" (defArgs s_l_rows) (defBody s_l_rows) (defScope s_l_rows) .none kV26 dc26 pm26 an26 cd26 ct26), sl26⟩) (c26 : PySem.W.codeIn K cd26 "_law_rows" = true) (k26 : PySem.W.keepIn K (.ref f26) = true)
    {f27 : Addr} {od27 an27 : Option Addr} {sl27 : Array (Option Value)} {oc27 kV27 dc27 pm27 cd27 ct27 : Value}
    (a27 : PySem.W.nsIn K mainGlobals "_law_drawn" = some (some (.ref f27))) (l27 : K.lookup f27 = some ⟨oc27, od27, .func (PySem.W.fnOf "_law_drawn" "_law_drawn" (defArgs s_l_drawn) (defBody s_l_drawn) (defScope s_l_drawn) .none kV27 dc27 pm27 an27 cd27 ct27), sl27⟩) (c27 : PySem.W.codeIn K cd27 "_law_drawn" = true) (k27 : PySem.W.keepIn K (.ref f27) = true)
    {f28 : Addr} {od28 an28 : Option Addr} {sl28 : Array (Option Value)} {oc28 kV28 dc28 pm28 cd28 ct28 : Value}
    (a28 : PySem.W.nsIn K mainGlobals "_law_passage" = some (some (.ref f28))) (l28 : K.lookup f28 = some ⟨oc28, od28, .func (PySem.W.fnOf "_law_passage" "_law_passage" (defArgs s_l_passage) (defBody s_l_passage) (defScope s_l_passage) .none kV28 dc28 pm28 an28 cd28 ct28), sl28⟩) (c28 : PySem.W.codeIn K cd28 "_law_passage" = true) (k28 : PySem.W.keepIn K (.ref f28) = true)
    {f29 : Addr} {od29 an29 : Option Addr} {sl29 : Array (Option Value)} {oc29 kV29 dc29 pm29 cd29 ct29 : Value}
    (a29 : PySem.W.nsIn K mainGlobals "_law_moved" = some (some (.ref f29))) (l29 : K.lookup f29 = some ⟨oc29, od29, .func (PySem.W.fnOf "_law_moved" "_law_moved" (defArgs s_l_moved) (defBody s_l_moved) (defScope s_l_moved) .none kV29 dc29 pm29 an29 cd29 ct29), sl29⟩) (c29 : PySem.W.codeIn K cd29 "_law_moved" = true) (k29 : PySem.W.keepIn K (.ref f29) = true)
    {f30 : Addr} {od30 an30 : Option Addr} {sl30 : Array (Option Value)} {oc30 kV30 dc30 pm30 cd30 ct30 : Value}
    (a30 : PySem.W.nsIn K mainGlobals "_law_right" = some (some (.ref f30))) (l30 : K.lookup f30 = some ⟨oc30, od30, .func (PySem.W.fnOf "_law_right" "_law_right" (defArgs s_l_right) (defBody s_l_right) (defScope s_l_right) .none kV30 dc30 pm30 an30 cd30 ct30), sl30⟩) (c30 : PySem.W.codeIn K cd30 "_law_right" = true) (k30 : PySem.W.keepIn K (.ref f30) = true)
    {f31 : Addr} {od31 an31 : Option Addr} {sl31 : Array (Option Value)} {oc31 kV31 dc31 pm31 cd31 ct31 : Value}
    (a31 : PySem.W.nsIn K mainGlobals "law" = some (some (.ref f31))) (l31 : K.lookup f31 = some ⟨oc31, od31, .func (PySem.W.fnOf "law" "law" (defArgs s_law) (defBody s_law) (defScope s_law) .none kV31 dc31 pm31 an31 cd31 ct31), sl31⟩) (c31 : PySem.W.codeIn K cd31 "law" = true) (k31 : PySem.W.keepIn K (.ref f31) = true)
    (z0 : PySem.W.nsIn K mainGlobals "all" = some none)
    (z1 : PySem.W.nsIn K mainGlobals "bool" = some none)
    (z2 : PySem.W.nsIn K mainGlobals "enumerate" = some none)
    (z3 : PySem.W.nsIn K mainGlobals "int" = some none)
    (z4 : PySem.W.nsIn K mainGlobals "isinstance" = some none)
    (z5 : PySem.W.nsIn K mainGlobals "len" = some none)
    (z6 : PySem.W.nsIn K mainGlobals "list" = some none)
    (z7 : PySem.W.nsIn K mainGlobals "max" = some none)
    (z8 : PySem.W.nsIn K mainGlobals "min" = some none)
    (z9 : PySem.W.nsIn K mainGlobals "range" = some none)
    (z10 : PySem.W.nsIn K mainGlobals "sorted" = some none)
    (z11 : PySem.W.nsIn K mainGlobals "sum" = some none)
    (z12 : PySem.W.nsIn K mainGlobals "tuple" = some none)
    (z13 : PySem.W.nsIn K mainGlobals "zip" = some none)
    {tMOST_CYCLE : Tok} (mMOST_CYCLE : PySem.W.nsIn K mainGlobals "MOST_CYCLE" = some (some (.int 1000000000000000000000000000000 tMOST_CYCLE)))
    : ∃ fd : FuncData, (∀ (s : Shared) (v : Value), BindsTo s fd ⟨[v], []⟩ [("_law_script", v)]) ∧ ∀ base : Heap, K.In base → base.Ns mainGlobals mg → FnG l.prog w K mg base CX0 8 fa fd ["_law_script"] (spLaw K) := by
  have e := hfa.symm.trans (PySem.W.mg_of X G a31)
  cases e
  have B : Blt mg tMOST_CYCLE := ⟨PySem.W.mg_none_of X G z0, PySem.W.mg_none_of X G z1, PySem.W.mg_none_of X G z2, PySem.W.mg_none_of X G z3, PySem.W.mg_none_of X G z4, PySem.W.mg_none_of X G z5, PySem.W.mg_none_of X G z6, PySem.W.mg_none_of X G z7, PySem.W.mg_none_of X G z8, PySem.W.mg_none_of X G z9, PySem.W.mg_none_of X G z10, PySem.W.mg_none_of X G z11, PySem.W.mg_none_of X G z12, PySem.W.mg_none_of X G z13, (PySem.W.mg_of X G mMOST_CYCLE).trans (congrArg (fun z => some (Value.int z tMOST_CYCLE)) (show (1000000000000000000000000000000 : Int) = (10 ^ 30) by decide +kernel))⟩
  have F0 := fun_mk (st := s_is_whole) l0 c0 k0
  have Dis_whole : Def K mg "is_whole" s_is_whole ["value"] f0 _ := ⟨F0, PySem.W.mg_of X G a0, F0.binds (ps := ["value"]) fun _ _ _ _ _ _ us hl => match us, hl with | [_], _ => rfl⟩
  have F1 := fun_mk (st := s_check_cycle) l1 c1 k1
  have Dcheck_cycle : Def K mg "check_cycle" s_check_cycle ["cycle"] f1 _ := ⟨F1, PySem.W.mg_of X G a1, F1.binds (ps := ["cycle"]) fun _ _ _ _ _ _ us hl => match us, hl with | [_], _ => rfl⟩
  have F2 := fun_mk (st := s_check_moment) l2 c2 k2
  have Dcheck_moment : Def K mg "check_moment" s_check_moment ["moment"] f2 _ := ⟨F2, PySem.W.mg_of X G a2, F2.binds (ps := ["moment"]) fun _ _ _ _ _ _ us hl => match us, hl with | [_], _ => rfl⟩
  have F3 := fun_mk (st := s_is_run) l3 c3 k3
  have Dis_run : Def K mg "is_run" s_is_run ["value"] f3 _ := ⟨F3, PySem.W.mg_of X G a3, F3.binds (ps := ["value"]) fun _ _ _ _ _ _ us hl => match us, hl with | [_], _ => rfl⟩
  have F4 := fun_mk (st := s_are_runs) l4 c4 k4
  have Dare_runs : Def K mg "are_runs" s_are_runs ["cycle", "value"] f4 _ := ⟨F4, PySem.W.mg_of X G a4, F4.binds (ps := ["cycle", "value"]) fun _ _ _ _ _ _ us hl => match us, hl with | [_, _], _ => rfl⟩
  have F5 := fun_mk (st := s_goes_on) l5 c5 k5
  have Dgoes_on : Def K mg "goes_on" s_goes_on ["before", "run"] f5 _ := ⟨F5, PySem.W.mg_of X G a5, F5.binds (ps := ["before", "run"]) fun _ _ _ _ _ _ us hl => match us, hl with | [_, _], _ => rfl⟩
  have F6 := fun_mk (st := s_joins) l6 c6 k6
  have Djoins : Def K mg "joins" s_joins ["before", "run"] f6 _ := ⟨F6, PySem.W.mg_of X G a6, F6.binds (ps := ["before", "run"]) fun _ _ _ _ _ _ us hl => match us, hl with | [_, _], _ => rfl⟩
  have F7 := fun_mk (st := s_last_arrival) l7 c7 k7
  have Dlast_arrival : Def K mg "last_arrival" s_last_arrival ["run"] f7 _ := ⟨F7, PySem.W.mg_of X G a7, F7.binds (ps := ["run"]) fun _ _ _ _ _ _ us hl => match us, hl with | [_], _ => rfl⟩
  have F8 := fun_mk (st := s_moved) l8 c8 k8
  have Dmoved : Def K mg "moved" s_moved ["run", "ticks"] f8 _ := ⟨F8, PySem.W.mg_of X G a8, F8.binds (ps := ["run", "ticks"]) fun _ _ _ _ _ _ us hl => match us, hl with | [_, _], _ => rfl⟩
  have F9 := fun_mk (st := s_ascending) l9 c9 k9
  have Dascending : Def K mg "ascending" s_ascending ["cycle", "rows"] f9 _ := ⟨F9, PySem.W.mg_of X G a9, F9.binds (ps := ["cycle", "rows"]) fun _ _ _ _ _ _ us hl => match us, hl with | [_, _], _ => rfl⟩
  have F10 := fun_mk (st := s_run_pairs) l10 c10 k10
  have Drun_pairs : Def K mg "run_pairs" s_run_pairs ["cycle", "runs"] f10 _ := ⟨F10, PySem.W.mg_of X G a10, F10.binds (ps := ["cycle", "runs"]) fun _ _ _ _ _ _ us hl => match us, hl with | [_, _], _ => rfl⟩
  have F11 := fun_mk (st := s_longest_runs) l11 c11 k11
  have Dlongest_runs : Def K mg "longest_runs" s_longest_runs ["cycle", "runs"] f11 _ := ⟨F11, PySem.W.mg_of X G a11, F11.binds (ps := ["cycle", "runs"]) fun _ _ _ _ _ _ us hl => match us, hl with | [_, _], _ => rfl⟩
  have F12 := fun_mk (st := s_place_of) l12 c12 k12
  have Dplace_of : Def K mg "place_of" s_place_of ["cycle", "runs", "start"] f12 _ := ⟨F12, PySem.W.mg_of X G a12, F12.binds (ps := ["cycle", "runs", "start"]) fun _ _ _ _ _ _ us hl => match us, hl with | [_, _, _], _ => rfl⟩
  have F13 := fun_mk (st := s_arrival_by_run) l13 c13 k13
  have Darrival_by_run : Def K mg "arrival_by_run" s_arrival_by_run ["run", "start"] f13 _ := ⟨F13, PySem.W.mg_of X G a13, F13.binds (ps := ["run", "start"]) fun _ _ _ _ _ _ us hl => match us, hl with | [_, _], _ => rfl⟩
  have F14 := fun_mk (st := s_arrival_at) l14 c14 k14
  have Darrival_at : Def K mg "arrival_at" s_arrival_at ["cycle", "runs", "start"] f14 _ := ⟨F14, PySem.W.mg_of X G a14, F14.binds (ps := ["cycle", "runs", "start"]) fun _ _ _ _ _ _ us hl => match us, hl with | [_, _, _], _ => rfl⟩
  have F15 := fun_mk (st := s_latest_runs) l15 c15 k15
  have Dlatest_runs : Def K mg "latest_runs" s_latest_runs ["cycle", "runs"] f15 _ := ⟨F15, PySem.W.mg_of X G a15, F15.binds (ps := ["cycle", "runs"]) fun _ _ _ _ _ _ us hl => match us, hl with | [_, _], _ => rfl⟩
  have F16 := fun_mk (st := s_P_init) l16 c16 k16
  have DP_init : DefM K "__init__" "Passage.__init__" s_P_init ["self", "cycle", "runs"] f16 _ := ⟨F16, F16.binds (ps := ["self", "cycle", "runs"]) fun _ _ _ _ _ _ us hl => match us, hl with | [_, _, _], _ => rfl⟩
  have F17 := fun_mk (st := s_P_call) l17 c17 k17
  have DP_call : DefM K "__call__" "Passage.__call__" s_P_call ["self", "start"] f17 _ := ⟨F17, F17.binds (ps := ["self", "start"]) fun _ _ _ _ _ _ us hl => match us, hl with | [_, _], _ => rfl⟩
  have F18 := fun_mk (st := s_P_latest) l18 c18 k18
  have DP_latest : DefM K "latest" "Passage.latest" s_P_latest ["self"] f18 _ := ⟨F18, F18.binds (ps := ["self"]) fun _ _ _ _ _ _ us hl => match us, hl with | [_], _ => rfl⟩
  have F19 := fun_mk (st := s_check_passage) l19 c19 k19
  have Dcheck_passage : Def K mg "check_passage" s_check_passage ["passage"] f19 _ := ⟨F19, PySem.W.mg_of X G a19, F19.binds (ps := ["passage"]) fun _ _ _ _ _ _ us hl => match us, hl with | [_], _ => rfl⟩
  have F20 := fun_mk (st := s_platoons) l20 c20 k20
  have Dplatoons : Def K mg "platoons" s_platoons ["passage"] f20 _ := ⟨F20, PySem.W.mg_of X G a20, F20.binds (ps := ["passage"]) fun _ _ _ _ _ _ us hl => match us, hl with | [_], _ => rfl⟩
  have F21 := fun_mk (st := s_gaps) l21 c21 k21
  have Dgaps : Def K mg "gaps" s_gaps ["passage"] f21 _ := ⟨F21, PySem.W.mg_of X G a21, F21.binds (ps := ["passage"]) fun _ _ _ _ _ _ us hl => match us, hl with | [_], _ => rfl⟩
  have F22 := fun_mk (st := s_l_spring) l22 c22 k22
  have Dl_spring : Def K mg "_law_spring" s_l_spring ["_law_script", "_law_k"] f22 _ := ⟨F22, PySem.W.mg_of X G a22, F22.binds (ps := ["_law_script", "_law_k"]) fun _ _ _ _ _ _ us hl => match us, hl with | [_, _], _ => rfl⟩
  have F23 := fun_mk (st := s_l_take) l23 c23 k23
  have Dl_take : Def K mg "_law_take" s_l_take ["_law_spring_here", "_law_many"] f23 _ := ⟨F23, PySem.W.mg_of X G a23, F23.binds (ps := ["_law_spring_here", "_law_many"]) fun _ _ _ _ _ _ us hl => match us, hl with | [_, _], _ => rfl⟩
  have F24 := fun_mk (st := s_l_cycle) l24 c24 k24
  have Dl_cycle : Def K mg "_law_cycle" s_l_cycle ["_law_spring_here"] f24 _ := ⟨F24, PySem.W.mg_of X G a24, F24.binds (ps := ["_law_spring_here"]) fun _ _ _ _ _ _ us hl => match us, hl with | [_], _ => rfl⟩
  have F25 := fun_mk (st := s_l_shares) l25 c25 k25
  have Dl_shares : Def K mg "_law_shares" s_l_shares ["_law_spring_here", "_law_total", "_law_many"] f25 _ := ⟨F25, PySem.W.mg_of X G a25, F25.binds (ps := ["_law_spring_here", "_law_total", "_law_many"]) fun _ _ _ _ _ _ us hl => match us, hl with | [_, _, _], _ => rfl⟩
  have F26 := fun_mk (st := s_l_rows) l26 c26 k26
  have Dl_rows : Def K mg "_law_rows" s_l_rows ["_law_spring_here", "_law_cycle_here", "_law_many", "_law_begin", "_law_arrival"] f26 _ := ⟨F26, PySem.W.mg_of X G a26, F26.binds (ps := ["_law_spring_here", "_law_cycle_here", "_law_many", "_law_begin", "_law_arrival"]) fun _ _ _ _ _ _ us hl => match us, hl with | [_, _, _, _, _], _ => rfl⟩
  have F27 := fun_mk (st := s_l_drawn) l27 c27 k27
  have Dl_drawn : Def K mg "_law_drawn" s_l_drawn ["_law_spring_here", "_law_cycle_here", "_law_many"] f27 _ := ⟨F27, PySem.W.mg_of X G a27, F27.binds (ps := ["_law_spring_here", "_law_cycle_here", "_law_many"]) fun _ _ _ _ _ _ us hl => match us, hl with | [_, _, _], _ => rfl⟩
  have F28 := fun_mk (st := s_l_passage) l28 c28 k28
  have Dl_passage : Def K mg "_law_passage" s_l_passage ["_law_spring_here", "_law_cycle_here", "_law_many"] f28 _ := ⟨F28, PySem.W.mg_of X G a28, F28.binds (ps := ["_law_spring_here", "_law_cycle_here", "_law_many"]) fun _ _ _ _ _ _ us hl => match us, hl with | [_, _, _], _ => rfl⟩
  have F29 := fun_mk (st := s_l_moved) l29 c29 k29
  have Dl_moved : Def K mg "_law_moved" s_l_moved ["_law_cycle_here", "_law_rows_here"] f29 _ := ⟨F29, PySem.W.mg_of X G a29, F29.binds (ps := ["_law_cycle_here", "_law_rows_here"]) fun _ _ _ _ _ _ us hl => match us, hl with | [_, _], _ => rfl⟩
  have F30 := fun_mk (st := s_l_right) l30 c30 k30
  have Dl_right : Def K mg "_law_right" s_l_right ["_law_spring_here", "_law_cycle_here", "_law_many"] f30 _ := ⟨F30, PySem.W.mg_of X G a30, F30.binds (ps := ["_law_spring_here", "_law_cycle_here", "_law_many"]) fun _ _ _ _ _ _ us hl => match us, hl with | [_, _, _], _ => rfl⟩
  have F31 := fun_mk (st := s_law) l31 c31 k31
  have Dlaw : Def K mg "law" s_law ["_law_script"] fa _ := ⟨F31, PySem.W.mg_of X G a31, F31.binds (ps := ["_law_script"]) fun _ _ _ _ _ _ us hl => match us, hl with | [_], _ => rfl⟩
  have MP_init : Meth K C "__init__" f16 := ⟨a16, i16, k16⟩
  have MP_call : Meth K C "__call__" f17 := ⟨a17, i17, k17⟩
  have MP_latest : Meth K C "latest" f18 := ⟨a18, i18, k18⟩
  have TP : TxtP K mg C f16 f17 := ⟨⟨pg, hd, po, sa⟩, nA0, nA1, PySem.W.mg_of X G aC, ⟨mi, a16, i16, kC⟩, ⟨a17, i17, y17⟩⟩
  refine ⟨PySem.W.fnOf "law" "law" (defArgs s_law) (defBody s_law) (defScope s_law) .none kV31 dc31 pm31 an31 cd31 ct31, fun s v => .of_eq rfl, fun base _ _ => ?_⟩
  have IP : IsP K C := ⟨iha, ihn, ihtk, ihm, if_pos (beq_self_eq_true _)⟩
  have GP_init := ok_initP (P := l.prog) (w := w) (base := base) B TP DP_init Dcheck_cycle Dis_whole Dare_runs Dis_run Dgoes_on Dlast_arrival Drun_pairs Dmoved Dlongest_runs Djoins Dascending
  have GP_call := ok_callP (P := l.prog) (w := w) (base := base) B TP DP_call Dcheck_moment Dis_whole Darrival_at Dplace_of Darrival_by_run Dmoved
  have GP_latest := ok_latest (P := l.prog) (w := w) (base := base) B TP DP_latest Dlatest_runs Drun_pairs Dmoved DP_init GP_init
  have Gplatoons := ok_platoons (P := l.prog) (w := w) (base := base) B TP IP Dplatoons Dcheck_passage Drun_pairs Dascending Dmoved
  have Ggaps := ok_gaps (P := l.prog) (w := w) (base := base) B TP IP Dgaps Dcheck_passage Drun_pairs Dascending Dmoved Dlast_arrival
  have Gl_right := ok_R63 (P := l.prog) (w := w) (base := base) B TP IP Dl_right Dl_drawn Dl_take Dl_shares Dl_rows Dl_passage Dl_moved DP_latest Dplatoons Dgaps DP_call DP_init MP_latest GP_call GP_init GP_latest Gplatoons Ggaps
  exact ok_law B TP Dlaw Dl_spring Dl_take Dl_cycle Dl_right DP_latest DP_call DP_init GP_init MP_latest GP_call GP_latest Gl_right
end Gr
open PySem PySem.W PyProof.Rows
set_option maxHeartbeats 0 in
theorem PySem.Challenge.cw_greenroads_k63_whole_latest_starts_turn_holds : PySem.Challenge.rw_greenroads_k63_whole_latest_starts_turn.Holds := by
  w_on; o_law; k_head; (case hw => w_witness2)
  k_fill
  refine Gr.walkG (l := PySem.Challenge.rw_greenroads_k63_whole_latest_starts_turn) (n := 63) (k := 8) (x := "_law_script") (sp := Gr.spLaw) rfl (by decide) rfl ⟨rfl, by decide, by decide⟩ (fun w h Y => PySem.W.kIn_of Y) ?F (fun K G a ns hl _ hS => ⟨a, ns, rfl, hS, hl, fun _ => rfl⟩)
  case F =>
    intro w mg fa h KX G hmg
    refine' Gr.all_mk KX G hmg ?aC ?pg ?hd ?po ?sa ?mi ?kC ?nA0 ?nA1 ?iha ?ihn ?ihtk ?ihm ?a0 ?l0 ?c0 ?k0 ?a1 ?l1 ?c1 ?k1 ?a2 ?l2 ?c2 ?k2 ?a3 ?l3 ?c3 ?k3 ?a4 ?l4 ?c4 ?k4 ?a5 ?l5 ?c5 ?k5 ?a6 ?l6 ?c6 ?k6 ?a7 ?l7 ?c7 ?k7 ?a8 ?l8 ?c8 ?k8 ?a9 ?l9 ?c9 ?k9 ?a10 ?l10 ?c10 ?k10 ?a11 ?l11 ?c11 ?k11 ?a12 ?l12 ?c12 ?k12 ?a13 ?l13 ?c13 ?k13 ?a14 ?l14 ?c14 ?k14 ?a15 ?l15 ?c15 ?k15 ?a16 ?i16 ?l16 ?c16 ?k16 ?a17 ?i17 ?y17 ?l17 ?c17 ?k17 ?a18 ?i18 ?l18 ?c18 ?k18 ?a19 ?l19 ?c19 ?k19 ?a20 ?l20 ?c20 ?k20 ?a21 ?l21 ?c21 ?k21 ?a22 ?l22 ?c22 ?k22 ?a23 ?l23 ?c23 ?k23 ?a24 ?l24 ?c24 ?k24 ?a25 ?l25 ?c25 ?k25 ?a26 ?l26 ?c26 ?k26 ?a27 ?l27 ?c27 ?k27 ?a28 ?l28 ?c28 ?k28 ?a29 ?l29 ?c29 ?k29 ?a30 ?l30 ?c30 ?k30 ?a31 ?l31 ?c31 ?k31 ?z0 ?z1 ?z2 ?z3 ?z4 ?z5 ?z6 ?z7 ?z8 ?z9 ?z10 ?z11 ?z12 ?z13 ?mMOST_CYCLE
    (case aC => k_is)
    (case pg => k_is)
    (case hd => k_is)
    (case po => k_is)
    (case sa => k_is)
    (case mi => k_is)
    (case kC => k_is)
    (case nA0 => k_is)
    (case nA1 => k_is)
    (case iha => k_is)
    (case ihn => k_is)
    (case ihtk => k_is)
    (case ihm => k_is)
    (case a0 => k_is)
    (case l0 => k_is)
    (case c0 => k_is)
    (case k0 => k_is)
    (case a1 => k_is)
    (case l1 => k_is)
    (case c1 => k_is)
    (case k1 => k_is)
    (case a2 => k_is)
    (case l2 => k_is)
    (case c2 => k_is)
    (case k2 => k_is)
    (case a3 => k_is)
    (case l3 => k_is)
    (case c3 => k_is)
    (case k3 => k_is)
    (case a4 => k_is)
    (case l4 => k_is)
    (case c4 => k_is)
    (case k4 => k_is)
    (case a5 => k_is)
    (case l5 => k_is)
    (case c5 => k_is)
    (case k5 => k_is)
    (case a6 => k_is)
    (case l6 => k_is)
    (case c6 => k_is)
    (case k6 => k_is)
    (case a7 => k_is)
    (case l7 => k_is)
    (case c7 => k_is)
    (case k7 => k_is)
    (case a8 => k_is)
    (case l8 => k_is)
    (case c8 => k_is)
    (case k8 => k_is)
    (case a9 => k_is)
    (case l9 => k_is)
    (case c9 => k_is)
    (case k9 => k_is)
    (case a10 => k_is)
    (case l10 => k_is)
    (case c10 => k_is)
    (case k10 => k_is)
    (case a11 => k_is)
    (case l11 => k_is)
    (case c11 => k_is)
    (case k11 => k_is)
    (case a12 => k_is)
    (case l12 => k_is)
    (case c12 => k_is)
    (case k12 => k_is)
    (case a13 => k_is)
    (case l13 => k_is)
    (case c13 => k_is)
    (case k13 => k_is)
    (case a14 => k_is)
    (case l14 => k_is)
    (case c14 => k_is)
    (case k14 => k_is)
    (case a15 => k_is)
    (case l15 => k_is)
    (case c15 => k_is)
    (case k15 => k_is)
    (case a16 => k_is)
    (case i16 => k_is)
    (case l16 => k_is)
    (case c16 => k_is)
    (case k16 => k_is)
    (case a17 => k_is)
    (case i17 => k_is)
    (case y17 => k_is)
    (case l17 => k_is)
    (case c17 => k_is)
    (case k17 => k_is)
    (case a18 => k_is)
    (case i18 => k_is)
    (case l18 => k_is)
    (case c18 => k_is)
    (case k18 => k_is)
    (case a19 => k_is)
    (case l19 => k_is)
    (case c19 => k_is)
    (case k19 => k_is)
    (case a20 => k_is)
    (case l20 => k_is)
    (case c20 => k_is)
    (case k20 => k_is)
    (case a21 => k_is)
    (case l21 => k_is)
    (case c21 => k_is)
    (case k21 => k_is)
    (case a22 => k_is)
    (case l22 => k_is)
    (case c22 => k_is)
    (case k22 => k_is)
    (case a23 => k_is)
    (case l23 => k_is)
    (case c23 => k_is)
    (case k23 => k_is)
    (case a24 => k_is)
    (case l24 => k_is)
    (case c24 => k_is)
    (case k24 => k_is)
    (case a25 => k_is)
    (case l25 => k_is)
    (case c25 => k_is)
    (case k25 => k_is)
    (case a26 => k_is)
    (case l26 => k_is)
    (case c26 => k_is)
    (case k26 => k_is)
    (case a27 => k_is)
    (case l27 => k_is)
    (case c27 => k_is)
    (case k27 => k_is)
    (case a28 => k_is)
    (case l28 => k_is)
    (case c28 => k_is)
    (case k28 => k_is)
    (case a29 => k_is)
    (case l29 => k_is)
    (case c29 => k_is)
    (case k29 => k_is)
    (case a30 => k_is)
    (case l30 => k_is)
    (case c30 => k_is)
    (case k30 => k_is)
    (case a31 => k_is)
    (case l31 => k_is)
    (case c31 => k_is)
    (case k31 => k_is)
    (case z0 => k_is)
    (case z1 => k_is)
    (case z2 => k_is)
    (case z3 => k_is)
    (case z4 => k_is)
    (case z5 => k_is)
    (case z6 => k_is)
    (case z7 => k_is)
    (case z8 => k_is)
    (case z9 => k_is)
    (case z10 => k_is)
    (case z11 => k_is)
    (case z12 => k_is)
    (case z13 => k_is)
    (case mMOST_CYCLE => k_is)
