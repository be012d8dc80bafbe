import Derived.Test.YtjnbhiamaabbgaaGreatDoorM14
set_option linter.all false
set_option maxRecDepth 100000
set_option maxHeartbeats 8000000
namespace Go.Proofs.YtjnbhiamaabbgaaGreatDoor
namespace P
open Go.RowKit A
def gX{a b:Bool}(h:a=true)(k:b=true):(a&&b)=true:=by rw[h,k];rfl
def xty:joinedFacts Tryz.pinned.checked.prog 6 Tryz.f6 Rows.crashedSpec Rows.crashedRow=true:=by
 unfold joinedFacts
 repeat' with_reducible refine gX ?_ ?_
 all_goals kernel_rfl
def xro:Tryz.pinned.checked.prog.funcNamed Rows.crashedRow.func=some 6:=by kernel_rfl
def xt3:Tryz.f6.isInstance Tryz.pinned.checked.prog Rows.crashedRow.origin Rows.crashedRow.targs:=Xj<|by kernel_rfl
def xv4:Tryz.f6.isWrapper Tryz.pinned.checked.prog Rows.crashedRow.wrapper Rows.crashedRow.mainSum:=by unfold Func.isWrapper;first|(rw[aA<|by decide+kernel];kernel_rfl)|(rw[aB<|by decide+kernel];exact⟨rfl,rfl⟩)
def said:Rows.CrashedSaid:=
 OpenClaim.holds_of_wide_leaving 6 Tryz.f6 rfl rfl rfl rfl rfl rfl rfl ⟨rfl,rfl,rfl,rfl,rfl⟩ rfl rfl rfl rfl rfl xro Tryz.func6 xty xt3 xv4
  (fun c a H b _=>by rw[OpenClaim.pre_eq_preRow];exact lifted c a H b)
def plain(f:FuncId)(fn:Func)(d:Tryz.pinned.checked.prog.funcNamed "coffer/cofferkeep.Crashed"=some f)(a:Tryz.pinned.checked.prog.funcs[f]?=some fn):
  true=Tryz.pinned.checked.prog.looks []/\∀(j:Nat) t,fn.params[j]?=some t->Tryz.pinned.checked.prog.wantsStandIn t=false:=by
 obtain rfl:f=6:=jf ((show Tryz.prog.funcNamed "coffer/cofferkeep.Crashed"=some 6 by kernel_rfl).symm.trans d) |>.symm;obtain rfl:fn=Tryz.f6:=(jf<|Tryz.func6.symm.trans a).symm;refine⟨by kernel_rfl,fun j t c=>?_⟩;rw[Tryz.params6]at c;have b:=Wk c;simp only[List.mem_toArray,xf,Vy,or_false]at b;rcases b with rfl|rfl|rfl;exact(show Tryz.prog.wantsStandIn 9=false by kernel_rfl);exact(show Tryz.prog.wantsStandIn 3=false by kernel_rfl);exact(show Tryz.prog.wantsStandIn 25=false by kernel_rfl)
def xt1:true=Rows.crashedRow.goesBy Tryz.pinned.checked.prog:=by kernel_rfl
def xt7:Tryz.pinned.checked.prog.mainIs=some (true,"4a0ee9522534c2d428c9830cfbd97c6c1925e58f526ebf18fccfdf95455ecf2d".toList):=by kernel_rfl
def card:Rows.CrashedCardSaid:=
 ⟨Claim7.tied_new_at .later [.data,.sentinel,.sentinel] true (Claim7.new_of_sixth said (true,"4a0ee9522534c2d428c9830cfbd97c6c1925e58f526ebf18fccfdf95455ecf2d") true rfl ⟨rfl,rfl⟩ xt7 rfl plain)<|by kernel_rfl,fun D a=>(by cases a),crashed_row_tie,(fun h=>by cases h),xt1⟩
end P
end Go.Proofs.YtjnbhiamaabbgaaGreatDoor
